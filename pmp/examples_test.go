package pmp_test

import (
	"testing"

	"tandem/api"
)

// The chapter's examples, row by row.

func TestExamplesOfPowersOfTwo(t *testing.T) {
	told{t}.spans(entries{settings{0x18}, addresses{0x20000000}}, 0, 0x80000000, 0x80000007)
	told{t}.spans(entries{settings{0x18}, addresses{0x200001ff}}, 0, 0x80000000, 0x80000fff)
	told{t}.spans(entries{settings{0x18}, addresses{1<<54 - 1}}, 0, 0, 1<<57-1)
	told{t}.spans(entries{settings{0x18}, addresses{1<<53 - 1}}, 0, 0, 1<<56-1)
}

func TestExamplesOfOtherWays(t *testing.T) {
	told{t}.spans(entries{settings{0, 0x08}, addresses{4, 8}}, 1, 16, 31)
	told{t}.spans(entries{settings{0x08}, addresses{4}}, 0, 0, 15)
	told{t}.spanless(entries{settings{0, 0x08}, addresses{8, 8}}, 1)
	told{t}.spans(entries{settings{0x10}, addresses{3}}, 0, 12, 15)
}

func TestExamplesOfNoEntry(t *testing.T) {
	told{t}.check(entries{}, access{api.Machine, api.Write, 5, 1}, true)
	told{t}.check(entries{}, access{api.User, api.Write, 5, 1}, false)
}

func TestExamplesOfWhatIsAllowed(t *testing.T) {
	e := entries{settings{0x19}, addresses{0x20000000}}
	told{t}.check(e, access{api.Supervisor, api.Read, 0x80000000, 8}, true)
	told{t}.check(e, access{api.Supervisor, api.Write, 0x80000000, 8}, false)
	told{t}.check(e, access{api.Supervisor, api.Read, 0x80000004, 8}, false)
}

func TestExamplesOfALock(t *testing.T) {
	a := access{api.Machine, api.Read, 0x80000000, 4}
	told{t}.check(entries{settings{0x98}, addresses{0x20000000}}, a, false)
	told{t}.check(entries{settings{0x18}, addresses{0x20000000}}, a, true)
}

func TestExamplesOfConfig(t *testing.T) {
	told{t}.config(settings{}, 0xff, settings{0x9f})
	told{t}.config(settings{}, 0x02, settings{})
	told{t}.config(settings{0x80}, 7, settings{0x80})
}

func TestExamplesOfAddress(t *testing.T) {
	e := entries{settings{0, 0x88}, addresses{1, 2}}
	told{t}.address(e, 0, 9, addresses{1, 2})
	told{t}.address(e, 1, 9, addresses{1, 2})
	told{t}.address(entries{}, 2, 1<<64-1, addresses{0, 0, 1<<54 - 1})
}
