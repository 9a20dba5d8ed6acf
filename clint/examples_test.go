package clint_test

import (
	"testing"

	"tandem/clint"
)

// The chapter's examples, row by row.

func TestExamplesOfANewOne(t *testing.T) {
	c := clint.New()
	for _, x := range []struct {
		at   uint64
		size int
		want uint64
		ok   bool
	}{{0x4000, 8, 1<<64 - 1, true}, {0xbffc, 4, 0, true}, {0, 8, 0, false}, {0x4002, 4, 0, false}, {4, 4, 0, false}} {
		if v, ok := c.Read(x.at, x.size); v != x.want || ok != x.ok {
			t.Errorf("Read(%#x, %d): %#x, %v", x.at, x.size, v, ok)
		}
	}
}

func TestExampleOfTheSoftwaresInterrupt(t *testing.T) {
	c := clint.New()
	if !c.Write(0, 4, 7) {
		t.Error("Write: false")
	}
	if v, ok := c.Read(0, 4); v != 1 || !ok {
		t.Errorf("Read: %#x, %v", v, ok)
	}
	if v := c.Pending(); v != 8 {
		t.Errorf("Pending: %#x", v)
	}
}

func TestExampleOfTheAlarm(t *testing.T) {
	c := clint.New()
	if !c.Write(0x4000, 8, 2) {
		t.Error("Write: false")
	}
	if v := c.Pending(); v != 0 {
		t.Errorf("Pending: %#x", v)
	}
	c.Tick()
	c.Tick()
	if v := c.Pending(); v != 0x80 {
		t.Errorf("Pending behind two ticks: %#x", v)
	}
}

func TestExampleOfAHalf(t *testing.T) {
	for _, lower := range []uint64{0, 1, 0x89abcdef, 0xffffffff} {
		c := clint.New()
		c.Write(0xbff8, 4, lower)
		if !c.Write(0xbffc, 4, 0x1ffffffff) {
			t.Error("Write: false")
		}
		if v := c.Time(); v != 0xffffffff00000000+lower {
			t.Errorf("Time: %#x", v)
		}
	}
}
