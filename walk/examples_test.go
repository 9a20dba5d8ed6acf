package walk_test

import (
	"testing"

	"tandem/api"
	"tandem/walk"
)

// The chapter's examples, row by row.

// example is the table from 0x80001000 on, and the one that it leads to, with a leaf.
func example(leaf uint64) *world {
	o := &world{image: make([]byte, 0x3000)}
	o.c.Satp = 8<<60 | 0x80001
	o.c.Pmpcfg[0], o.c.Pmpaddr[0] = 0x1f, 1<<54-1
	o.put(0x80001010, 0x20000801)
	o.put(0x80002008, leaf)
	return o
}

func TestExamplesOfWalk(t *testing.T) {
	o := example(0x200800cf).told(t)
	o.walks(api.Supervisor, api.Read, 0x80212345, walk.Leaf{Address: 0x80212345, Level: 1, Entry: 0x200800cf, From: 0x80002008})
	o.walks(api.Machine, api.Read, 0x80212345, walk.Leaf{Address: 0x80212345, Level: -1})
	o.strays(api.User, api.Read, 0x80212345, api.ReadPage)
	o.strays(api.Supervisor, api.Read, 0x80412345, api.ReadPage)
	o.strays(api.Supervisor, api.Fetch, 0x4000000000, api.FetchPage)
	o.c.Satp = 0
	o.walks(api.Supervisor, api.Read, 0x80212345, walk.Leaf{Address: 0x80212345, Level: -1})
	o.c.Satp = 8<<60 | 0x10000
	o.strays(api.Supervisor, api.Read, 0x80212345, api.ReadFault)
	o.strays(api.Supervisor, api.Write, 0x80212345, api.WriteFault)
	o.strays(api.Supervisor, api.Fetch, 0x80212345, api.FetchFault)
}

func TestExamplesOfLeaves(t *testing.T) {
	o := example(0x200804cf).told(t)
	for _, kind := range kinds() {
		o.strays(api.Supervisor, kind, 0x80212345, pageFaults[counted(kind)])
	}
	example(0x2008004f).told(t).strays(api.Supervisor, api.Write, 0x80212345, api.WritePage)
	example(0x2008008f).told(t).strays(api.Supervisor, api.Read, 0x80212345, api.ReadPage)
}

func TestExamplesOfMode(t *testing.T) {
	o := told{t: t, c: &api.Csrs{Mstatus: 1<<17 | 1<<11}}
	o.judged(api.Machine, api.Read, 1)
	o.judged(api.Machine, api.Fetch, 3)
	o.judged(api.Supervisor, api.Read, 1)
}

func TestExamplesOfReach(t *testing.T) {
	o := example(0x200800cf).told(t)
	o.c = &api.Csrs{}
	o.reaches(api.Machine, api.Write, 0x10000000, 1, 0x10000000)
	o.fails(api.Supervisor, api.Read, 0x80000000, 8, api.ReadFault)
}
