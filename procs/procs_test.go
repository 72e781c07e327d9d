package procs

import (
	"slices"
	"testing"

	"signalbox/api"
)

func made(t *testing.T, most int) *Table {
	t.Helper()
	table, c := New(most)
	if c != api.OK || table == nil {
		t.Fatalf("New(%d): %d", most, c)
	}
	return table
}

func spawn(t *testing.T, table *Table, parent, want int, c api.Code) {
	t.Helper()
	if pid, d := table.Spawn(parent); pid != want || d != c {
		t.Errorf("Spawn(%d): %d, %d; want %d, %d", parent, pid, d, want, c)
	}
}

// P8.1: how many there may be.
func TestNew(t *testing.T) {
	for _, most := range []int{api.Least, -1, 0, api.MaxLive + 1, api.Most} {
		if table, c := New(most); table != nil || c != api.ErrArg {
			t.Errorf("New(%d): %d", most, c)
		}
	}
	table := made(t, api.MaxLive)
	if table.Live() != 0 || table.Count() != 0 || len(table.Ready()) != 0 || len(table.Blocked()) != 0 {
		t.Error("somebody is there")
	}
	for i := range api.MaxLive {
		spawn(t, table, 0, i+1, api.OK)
	}
	spawn(t, table, 0, 0, api.TProcs)
	if table.Live() != api.MaxLive || table.Count() != api.MaxLive {
		t.Error(table.Live(), table.Count())
	}
}

// P8.1: the document's example; numbers are drawn once.
func TestNumbers(t *testing.T) {
	table := made(t, 1)
	spawn(t, table, 0, 1, api.OK)
	spawn(t, table, 1, 0, api.TProcs)
	if !table.End(1, api.OK) {
		t.Error("End is false")
	}
	spawn(t, table, 0, 2, api.OK)
	if table.Count() != 2 || table.Live() != 1 {
		t.Error(table.Count(), table.Live())
	}
}

// P8.1: a parent is nobody, or live; that is looked for first.
func TestParents(t *testing.T) {
	table := made(t, 3)
	for _, parent := range []int{api.Least, -1, 1, 2, api.Most} {
		spawn(t, table, parent, 0, api.ErrNone)
	}
	spawn(t, table, 0, 1, api.OK)
	spawn(t, table, 1, 2, api.OK)
	table.Block(1, api.Why{Kind: api.WJoin})
	spawn(t, table, 1, 3, api.OK)
	spawn(t, table, 9, 0, api.ErrNone)
	spawn(t, table, 1, 0, api.TProcs)
	if table.Parent(1) != 0 || table.Parent(2) != 1 || table.Parent(3) != 1 || table.Parent(4) != 0 || table.Parent(-1) != 0 {
		t.Error("parents")
	}
	if table.Kids(1) != 2 || table.Kids(0) != 0 || table.Kids(-1) != 0 || table.Kids(2) != 0 || table.Kids(99) != 0 {
		t.Error("kids", table.Kids(1), table.Kids(0))
	}
	table.End(2, api.OK)
	table.End(3, api.TZero)
	spawn(t, table, 2, 0, api.ErrNone)
	spawn(t, table, 3, 0, api.ErrNone)
	if table.Kids(1) != 0 || table.Parent(2) != 1 || table.Parent(3) != 1 {
		t.Error("kids of ended ones", table.Kids(1))
	}
}

// P8.1, P8.2: who may be blocked and woken, and what is told of it.
func TestBlockAndWake(t *testing.T) {
	table := made(t, 4)
	for range 3 {
		table.Spawn(0)
	}
	for _, kind := range []int{api.Least, -1, 0, 6, api.Most} {
		if table.Block(1, api.Why{Kind: kind, Index: 3}) || table.State(1) != api.PReady {
			t.Errorf("Block for %d", kind)
		}
	}
	for kind := api.WSema; kind <= api.WJoin; kind++ {
		w := api.Why{Kind: kind, Index: -kind}
		if table.Why(2) != (api.Why{}) || !table.Block(2, w) || table.State(2) != api.PBlocked || table.Why(2) != w || table.Block(2, w) {
			t.Errorf("Block for %d: %d, %v", kind, table.State(2), table.Why(2))
		}
		if !slices.Equal(table.Ready(), []int{1, 3}) || !slices.Equal(table.Blocked(), []int{2}) || table.Live() != 3 {
			t.Error(table.Ready(), table.Blocked())
		}
		if !table.Wake(2) || table.Wake(2) || table.State(2) != api.PReady || table.Why(2) != (api.Why{}) {
			t.Error("Wake")
		}
	}
	for _, pid := range []int{api.Least, -1, 0, 4, api.Most} {
		if table.Block(pid, api.Why{Kind: 1}) || table.Wake(pid) || table.End(pid, api.OK) || table.State(pid) != 0 || table.Why(pid) != (api.Why{}) || table.Code(pid) != api.OK {
			t.Errorf("%d is somebody", pid)
		}
	}
}

// P8.1, P8.2, P8.3: who has ended stays so; codes of those that are trapped.
func TestEnd(t *testing.T) {
	table := made(t, 4)
	for range 4 {
		table.Spawn(0)
	}
	table.Block(3, api.Why{Kind: api.WSema, Index: 1})
	if !table.End(1, api.OK) || !table.End(3, api.TClaim) || table.End(1, api.OK) || table.End(1, api.TZero) || table.End(3, api.OK) {
		t.Error("End")
	}
	if table.State(1) != api.PEnded || table.Code(1) != api.OK || table.State(3) != api.PTrapped || table.Code(3) != api.TClaim || table.Why(3) != (api.Why{}) {
		t.Error(table.State(1), table.Code(1), table.State(3), table.Code(3), table.Why(3))
	}
	for _, pid := range []int{1, 3} {
		if table.Block(pid, api.Why{Kind: 1}) || table.Wake(pid) {
			t.Error("one that has ended is moved")
		}
	}
	if !table.End(2, -7) || table.State(2) != api.PTrapped || table.Code(2) != -7 || table.Code(4) != api.OK {
		t.Error("End by some code")
	}
	if !slices.Equal(table.Ready(), []int{4}) || len(table.Blocked()) != 0 || table.Live() != 1 || table.Count() != 4 {
		t.Error(table.Ready(), table.Blocked(), table.Live(), table.Count())
	}
}

// P8.2 (rule 3): what is told is new memory.
func TestMemory(t *testing.T) {
	table := made(t, 3)
	table.Spawn(0)
	table.Spawn(0)
	table.Block(2, api.Why{Kind: api.WUnits, Index: 4})
	table.Ready()[0], table.Blocked()[0] = 9, 9
	if !slices.Equal(table.Ready(), []int{1}) || !slices.Equal(table.Blocked(), []int{2}) {
		t.Error("lists are handed out")
	}
}

// P8.2: a nil Table.
func TestNil(t *testing.T) {
	var table *Table
	spawn(t, table, 0, 0, api.ErrNone)
	if table.Block(1, api.Why{Kind: 1}) || table.Wake(1) || table.End(1, api.OK) || table.State(1) != 0 || table.Why(1) != (api.Why{}) || table.Code(1) != api.OK {
		t.Error("a nil Table tells something")
	}
	if table.Parent(1) != 0 || table.Kids(1) != 0 || table.Live() != 0 || table.Count() != 0 || table.Ready() != nil || table.Blocked() != nil {
		t.Error("a nil Table tells something")
	}
}
