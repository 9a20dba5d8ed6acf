package alu_test

import (
	"testing"

	"tandem/alu"
	"tandem/api"
)

const all = 1<<64 - 1

// TestExamplesOfDo holds the chapter's examples of Do.
func TestExamplesOfDo(t *testing.T) {
	for _, c := range []struct {
		kind       int
		word       bool
		a, b, want uint64
	}{
		{api.Add, false, all, 2, 1},
		{api.Add, true, 0x7fffffff, 1, 0xffffffff80000000},
		{api.Sll, false, 1, 70, 64},
		{api.Sll, true, 1, 31, 0xffffffff80000000},
		{api.Sra, false, 1 << 63, 63, all},
		{api.Srl, true, 0xf80000000, 4, 0x08000000},
		{api.Slt, false, all, 0, 1},
		{api.Sltu, false, all, 0, 0},
		{api.Mulh, false, all, all, 0},
		{api.Mulhu, false, all, all, all - 1},
		{api.Mulhsu, false, all, all, all},
		{api.Div, false, 1 << 63, all, 1 << 63},
		{api.Rem, false, 1 << 63, all, 0},
		{api.Div, false, 7, 0, all},
		{api.Rem, false, 7, 0, 7},
		{api.Div, true, 0x80000000, 0xffffffff, 0xffffffff80000000},
		{api.Divu, true, all, 1, all},
		{api.Remu, true, 0x80000000, 0, 0xffffffff80000000},
	} {
		if r, ok := alu.Do(c.kind, c.word, c.a, c.b); r != c.want || !ok {
			t.Errorf("%+v: %x, %v", c, r, ok)
		}
	}
	if r, ok := alu.Do(api.Slt, true, 1, 2); r != 0 || ok {
		t.Errorf("Slt of words: %x, %v", r, ok)
	}
	if r, ok := alu.Do(api.Lui, false, 1, 2); r != 0 || ok {
		t.Errorf("Lui: %x, %v", r, ok)
	}
}

// TestExamplesOfBranch holds the chapter's examples of Branch.
func TestExamplesOfBranch(t *testing.T) {
	for _, c := range []struct {
		kind   int
		a, b   uint64
		is, ok bool
	}{
		{api.Blt, all, 0, true, true},
		{api.Bgeu, 0, 0, true, true},
		{api.Jal, 0, 0, false, false},
	} {
		if is, ok := alu.Branch(c.kind, c.a, c.b); is != c.is || ok != c.ok {
			t.Errorf("%+v: %v, %v", c, is, ok)
		}
	}
}

// TestExamplesOfAtomic holds the chapter's examples of Atomic.
func TestExamplesOfAtomic(t *testing.T) {
	for _, c := range []struct {
		kind, size   int
		old, v, want uint64
		ok           bool
	}{
		{api.AmoMin, 4, 0xffffffff, 1, 0xffffffff, true},
		{api.AmoMinu, 4, 0x1ffffffff, 1, 1, true},
		{api.AmoAdd, 4, 0xffffffff, 2, 1, true},
		{api.AmoSwap, 2, 1, 2, 0, false},
	} {
		if r, ok := alu.Atomic(c.kind, c.size, c.old, c.v); r != c.want || ok != c.ok {
			t.Errorf("%+v: %x, %v", c, r, ok)
		}
	}
}

// TestExamplesOfExtend holds the chapter's examples of Extend.
func TestExamplesOfExtend(t *testing.T) {
	for _, c := range []struct {
		v        uint64
		size     int
		unsigned bool
		want     uint64
		ok       bool
	}{
		{0x1ff, 1, false, all, true},
		{0x1ff, 1, true, 255, true},
		{5, 3, true, 0, false},
	} {
		if r, ok := alu.Extend(c.v, c.size, c.unsigned); r != c.want || ok != c.ok {
			t.Errorf("%+v: %x, %v", c, r, ok)
		}
	}
}
