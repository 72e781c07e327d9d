package join

import (
	"slices"
	"testing"

	"signalbox/api"
	"signalbox/procs"
)

// family makes a table; parents are those of 1, 2, ..
func family(t *testing.T, parents ...int) *procs.Table {
	t.Helper()
	table, c := procs.New(api.MaxLive)
	if c != api.OK {
		t.Fatal(c)
	}
	for _, parent := range parents {
		if _, c := table.Spawn(parent); c != api.OK {
			t.Fatal(c)
		}
	}
	return table
}

func end(t *testing.T, table *procs.Table, pid int, c api.Code, woken int, ok bool) {
	t.Helper()
	if w, is := End(table, pid, c); w != woken || is != ok {
		t.Errorf("End(%d): %d, %v; want %d, %v", pid, w, is, woken, ok)
	}
}

// P10.1, P10.2: the document's example: who joins goes on behind the last one.
func TestJoin(t *testing.T) {
	table := family(t, 0, 1, 1)
	if Join(table, 1) || table.Why(1) != (api.Why{Kind: api.WJoin}) {
		t.Error("1 is not blocked:", table.Why(1))
	}
	if Join(table, 1) {
		t.Error("one that is blocked joins")
	}
	end(t, table, 3, api.OK, 0, true)
	if table.State(1) != api.PBlocked {
		t.Error("1 goes on too early")
	}
	end(t, table, 2, api.TZero, 1, true)
	if table.State(1) != api.PReady || table.Code(2) != api.TZero || !Join(table, 1) || table.State(1) != api.PReady {
		t.Error("1 does not go on")
	}
	end(t, table, 1, api.OK, 0, true)
}

// P10.1: who is nobody, or ended, has nobody to wait for.
func TestJoinOfOthers(t *testing.T) {
	table := family(t, 0, 1)
	for _, pid := range []int{api.Least, -1, 0, 2, 3, api.Most} {
		if !Join(table, pid) {
			t.Errorf("%d waits", pid)
		}
	}
	table.Block(1, api.Why{Kind: api.WSema, Index: 4})
	if Join(table, 1) || table.Why(1) != (api.Why{Kind: api.WSema, Index: 4}) {
		t.Error("one that is blocked is blocked anew:", table.Why(1))
	}
	table.Wake(1)
	table.End(1, api.OK)
	if Join(table, 1) || table.State(1) != api.PEnded {
		t.Error("one that has ended is blocked")
	}
}

// P10.1: a parent that waits for something else, or whose other children live, is not woken.
func TestEnd(t *testing.T) {
	table := family(t, 0, 1, 1, 2)
	table.Block(1, api.Why{Kind: api.WSema})
	end(t, table, 3, api.OK, 0, true)
	end(t, table, 3, api.OK, 0, false)
	for _, pid := range []int{api.Least, -1, 0, 5, api.Most} {
		end(t, table, pid, api.OK, 0, false)
	}
	if Join(table, 2) {
		t.Error("2 does not wait for 4")
	}
	end(t, table, 2, api.OK, 0, true)
	if table.State(1) != api.PBlocked {
		t.Error("1 is woken from a semaphore")
	}
	end(t, table, 4, api.OK, 0, true)
	if table.State(2) != api.PEnded {
		t.Error("2 is woken, and has ended")
	}
	// A blocked one can be ended too.
	end(t, table, 1, api.TStack, 0, true)
	if table.Live() != 0 {
		t.Error(table.Live())
	}
}

// P10.1: who comes from whom.
func TestUnder(t *testing.T) {
	//                        1  2  3  4  5  6  7  8  9
	table := family(t, 0, 1, 1, 2, 0, 4, 5, 6, 3)
	table.End(4, api.OK)
	table.End(8, api.TZero)
	for pid, want := range [][]int{nil, {2, 3, 4, 6, 8, 9}, {4, 6, 8}, {9}, {6, 8}, {7}, {8}, nil, nil, nil, nil} {
		if l := Under(table, pid); !slices.Equal(l, want) {
			t.Errorf("Under(%d): %v; want %v", pid, l, want)
		}
	}
	for _, pid := range []int{api.Least, -1, 100, api.Most} {
		if l := Under(table, pid); l != nil {
			t.Errorf("Under(%d): %v", pid, l)
		}
	}
}

// P10.1 (rule 1): a long line of parents ends.
func TestUnderOfMany(t *testing.T) {
	table := family(t, 0)
	for pid := 1; pid < 50000; pid++ {
		table.Spawn(pid)
		table.End(pid, api.OK)
	}
	if l := Under(table, 1); len(l) != 49999 || l[0] != 2 {
		t.Error(len(l))
	}
	if l := Under(table, 49999); !slices.Equal(l, []int{50000}) {
		t.Error(l)
	}
}

// P10.1: a nil table.
func TestNil(t *testing.T) {
	if !Join(nil, 1) || Under(nil, 1) != nil {
		t.Error("a nil table tells something")
	}
	end(t, nil, 1, api.OK, 0, false)
}
