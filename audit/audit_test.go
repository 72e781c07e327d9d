package audit

import (
	"slices"
	"testing"

	"signalbox/api"
	"signalbox/gen"
	"signalbox/interp"
	"signalbox/kernel"
	"signalbox/machine"
	"signalbox/parse"
	"signalbox/sample"
	"signalbox/scope"
)

// made makes a kernel of four processes that each claim 2 of 3 units; semaphore 0 is 0, semaphore 1 is 1.
func made(t *testing.T, claimed bool) *kernel.Kernel {
	t.Helper()
	k, c := kernel.New([]int{0, 1}, 2, []int{3}, 8, claimed)
	if c != api.OK {
		t.Fatal(c)
	}
	k.Start([]int{2})
	for range 3 {
		k.Fork(1, []int{2})
	}
	return k
}

// wrong: of that kernel just this is not so.
func wrong(t *testing.T, what string, k *kernel.Kernel, totals []int, claimed bool, want ...int) {
	t.Helper()
	if got := Check(k, totals, claimed); !slices.Equal(got, want) {
		t.Errorf("%s: %v; want %v", what, got, want)
	}
}

// P32.1: kernels of which nothing is wrong.
func TestNothingWrong(t *testing.T) {
	k, _ := kernel.New(nil, 0, nil, 1, true)
	wrong(t, "new", k, nil, true)
	k, _ = kernel.New([]int{1}, 1, []int{2, 3}, 1, true)
	wrong(t, "new", k, []int{2, 3}, true)
	wrong(t, "none", nil, []int{1}, true)
	k = made(t, true)
	k.P(2, 0)
	k.Enter(3, 1)
	k.Enter(4, 1)
	k.Request(3, []int{2})
	k.Request(1, []int{2})
	wrong(t, "some wait", k, []int{3}, true)
	k.Await(3, 1, false)
	wrong(t, "some wait", k, []int{3}, true)
	k.Leave(4, 1)
	wrong(t, "one waits to be in again, and is", k, []int{3}, true)
	k.End(3, api.TZero)
	k.Join(1)
	k.V(4, 0)
	wrong(t, "one joins", k, []int{3}, true)
}

// P32.1: totals that are not so.
func TestTotals(t *testing.T) {
	k := made(t, true)
	k.Request(1, []int{1})
	wrong(t, "so", k, []int{3}, true)
	for _, totals := range [][]int{{2}, {4}, nil, {3, 1}, {3, 0}} {
		wrong(t, "totals", k, totals, true, 1)
	}
}

// P32.1: what in claimed mode must be so.
func TestClaims(t *testing.T) {
	k := made(t, false)
	k.Request(1, []int{1})
	k.Request(2, []int{1})
	wrong(t, "safe", k, []int{3}, true)
	k.Request(3, []int{1})
	wrong(t, "not safe", k, []int{3}, true, 3)
	wrong(t, "unclaimed", k, []int{3}, false)
	k = made(t, false)
	k.Request(1, []int{3})
	wrong(t, "more than claimed", k, []int{3}, true, 2, 3)
	wrong(t, "unclaimed", k, []int{3}, false)
}

// P32.1: regions in which something does not fit.
func TestRegions(t *testing.T) {
	k := made(t, true)
	k.Region(0).Enter(99)
	wrong(t, "nobody is in", k, []int{3}, true, 5)
	k = made(t, true)
	k.Enter(1, 0)
	k.Procs().End(1, api.OK)
	wrong(t, "one that has ended is in", k, []int{3}, true, 5)
	k = made(t, true)
	k.Enter(1, 1)
	k.Region(1).Enter(1)
	wrong(t, "in, and in its queue", k, []int{3}, true, 5, 6)
	k = made(t, true)
	k.Enter(1, 1)
	k.P(1, 0)
	wrong(t, "in, and blocked elsewhere", k, []int{3}, true)
	k.Region(1).Enter(1)
	wrong(t, "in, and in its queue, and blocked elsewhere", k, []int{3}, true, 5)
	k = made(t, true)
	k.Enter(1, 1)
	k.Enter(2, 1)
	k.Region(1).Enter(2)
	wrong(t, "twice", k, []int{3}, true, 5)
	k = made(t, true)
	k.Enter(1, 1)
	k.Await(1, 1, false)
	k.Enter(2, 1)
	k.Region(1).Enter(1)
	wrong(t, "in both queues", k, []int{3}, true, 5)
	k = made(t, true)
	k.Enter(1, 1)
	k.Region(1).Enter(77)
	wrong(t, "nobody waits", k, []int{3}, true, 5)
	k = made(t, true)
	k.Enter(1, 1)
	k.Region(1).Fail(1)
	wrong(t, "a ready one waits", k, []int{3}, true, 5, 6)
}

// P32.1: processes that do not stand where they say.
func TestPlaces(t *testing.T) {
	for _, w := range []api.Why{{Kind: api.WSema}, {Kind: api.WSema, Index: 7}, {Kind: api.WSema, Index: -1}, {Kind: api.WEnter}, {Kind: api.WEnter, Index: 9}, {Kind: api.WAwait, Index: 1}, {Kind: api.WUnits, Index: 1}, {Kind: api.WJoin}} {
		k := made(t, true)
		k.Procs().Block(2, w)
		wrong(t, "stands nowhere", k, []int{3}, true, 6)
	}
	k := made(t, true)
	k.Procs().Block(1, api.Why{Kind: api.WJoin})
	wrong(t, "has children", k, []int{3}, true)
	k = made(t, true)
	k.Sema(0).P(2)
	wrong(t, "a ready one waits at a semaphore", k, []int{3}, true, 6)
	k.Procs().Block(2, api.Why{Kind: api.WSema, Index: 1})
	wrong(t, "at another semaphore", k, []int{3}, true, 6)
	k = made(t, true)
	k.Request(1, []int{2})
	k.Alloc().Ask(2, []int{2})
	wrong(t, "a ready one asks", k, []int{3}, true, 6)
	k.Procs().Block(2, api.Why{Kind: api.WUnits, Index: 5})
	wrong(t, "a blocked one asks", k, []int{3}, true)
	k = made(t, true)
	k.Enter(1, 0)
	k.Enter(2, 0)
	k.Procs().Wake(2)
	wrong(t, "a ready one is in an entry queue", k, []int{3}, true, 5, 6)
	k.Procs().Block(2, api.Why{Kind: api.WAwait})
	wrong(t, "in an entry queue behind its condition", k, []int{3}, true)
	k.Await(1, 0, false)
	k.Leave(2, 0)
	k = made(t, true)
	k.Enter(1, 0)
	k.Await(1, 0, false)
	k.Procs().Wake(1)
	k.Procs().Block(1, api.Why{Kind: api.WEnter})
	wrong(t, "waits for its condition, and says it wants to enter", k, []int{3}, true, 6)
}

func ev(at, kind, pid, a, b int) api.Event {
	return api.Event{At: at, Kind: kind, Pid: pid, A: a, B: b}
}

// P32.2: traces.
func TestTrace(t *testing.T) {
	block, grant, end, trap, write, stop := api.EvBlock, api.EvGrant, api.EvEnd, api.EvTrap, api.EvWrite, api.EvStop
	for i, r := range []struct {
		l  []api.Event
		is bool
	}{
		{nil, true},
		{[]api.Event{ev(0, write, 1, 0, 0), ev(0, write, 1, 0, 0), ev(5, write, 1, 0, 0)}, true},
		{[]api.Event{ev(5, write, 1, 0, 0), ev(4, write, 2, 0, 0)}, false},
		{[]api.Event{ev(-1, write, 1, 0, 0)}, false},
		{[]api.Event{ev(5, write, 1, 0, 0), ev(4, stop, 0, 1, 0)}, false},
		{[]api.Event{ev(1, stop, 0, 1, 0)}, true},
		{[]api.Event{ev(-1, stop, 0, 1, 0)}, false},
		{[]api.Event{ev(1, stop, 0, 1, 0), ev(1, write, 1, 0, 0)}, false},
		{[]api.Event{ev(1, stop, 0, 1, 0), ev(1, stop, 0, 1, 0)}, false},
		{[]api.Event{ev(1, end, 1, 0, 0), ev(1, write, 2, 0, 0), ev(1, stop, 0, 1, 0)}, true},
		{[]api.Event{ev(1, end, 1, 0, 0), ev(2, write, 1, 0, 0)}, false},
		{[]api.Event{ev(1, trap, 1, 31, 0), ev(2, end, 1, 0, 0)}, false},
		{[]api.Event{ev(1, trap, 1, 31, 0), ev(1, stop, 1, 1, 0)}, true},
		{[]api.Event{ev(1, end, 0, 0, 0), ev(1, stop, 0, 1, 0)}, true},
		{[]api.Event{ev(1, block, 1, api.WUnits, 3), ev(2, write, 2, 0, 0), ev(4, grant, 1, 3, 0), ev(5, end, 1, 0, 0)}, true},
		{[]api.Event{ev(1, block, 1, api.WUnits, 3), ev(4, grant, 1, 2, 0)}, false},
		{[]api.Event{ev(1, block, 1, api.WUnits, 3), ev(4, write, 1, 3, 0)}, false},
		{[]api.Event{ev(1, block, 1, api.WUnits, 3), ev(4, end, 1, 0, 0)}, false},
		{[]api.Event{ev(1, block, 1, api.WUnits, 3), ev(4, grant, 2, 1, 0), ev(9, stop, 0, 3, 0)}, true},
		{[]api.Event{ev(1, block, 1, api.WUnits, 3), ev(9, stop, 1, 3, 0)}, true},
		{[]api.Event{ev(1, block, 1, api.WUnits, 0), ev(4, grant, 1, 0, 0)}, true},
		{[]api.Event{ev(1, block, 1, api.WSema, 3), ev(4, grant, 1, 2, 0), ev(5, write, 1, 0, 0)}, true},
		{[]api.Event{ev(1, block, 1, api.WJoin, 0), ev(4, write, 1, 2, 0)}, true},
		{[]api.Event{ev(1, block, 1, api.WAwait, 0), ev(4, end, 1, 2, 0)}, true},
		{[]api.Event{ev(1, grant, 1, 4, 0), ev(4, grant, 1, 2, 0), ev(4, block, 1, api.WUnits, 1), ev(4, block, 1, api.WUnits, 1)}, false},
	} {
		if Trace(r.l) != r.is {
			t.Errorf("%d: %v is %v", i, r.l, !r.is)
		}
	}
}

// P32.3: deadlocked sets.
func TestDeadlocks(t *testing.T) {
	k := made(t, false)
	k.Request(2, []int{2})
	k.Request(3, []int{1})
	k.Request(3, []int{1})
	if l := Deadlocks(k); len(l) != 0 {
		t.Error(l)
	}
	k.Request(2, []int{1})
	if l := Deadlocks(k); !slices.Equal(l, []int{2, 3}) {
		t.Error(l)
	}
	if Deadlocks(nil) != nil {
		t.Error("deadlocks of nothing")
	}
}

// P32.4: whatever is run, nothing is wrong behind any step, and the trace is as it must be.
func TestAlways(t *testing.T) {
	for seed := range 400 {
		s, _ := parse.Parse(sample.Source(seed))
		table, _ := scope.Build(s)
		input, picks, claimed := sample.Numbers(seed, 5), sample.Numbers(seed, 250), seed%2 == 0
		m, c := machine.New(gen.Program(s, table), claimed, api.Limits{Procs: 12, Stack: 100, Store: 2000}, input)
		if c != api.OK {
			t.Fatal(c)
		}
		i := interp.New(s, table, claimed, input)
		for _, pick := range picks {
			for _, k := range []*kernel.Kernel{m.Kernel(), i.Kernel()} {
				if l := Check(k, table.Totals(), claimed); l != nil {
					t.Fatalf("seed %d: %v", seed, l)
				}
				if claimed && len(Deadlocks(k)) > 0 {
					t.Fatalf("seed %d: deadlocked in claimed mode", seed)
				}
			}
			if a, b := m.Step(pick), i.Step(pick); !a && !b {
				break
			}
		}
		for _, l := range [][]api.Event{m.Trace(), i.Trace(), m.Run(nil).Trace, i.Run(nil).Trace} {
			if !Trace(l) {
				t.Fatalf("seed %d: %v", seed, l)
			}
		}
	}
}
