package kernel

import (
	"fmt"
	"slices"
	"testing"

	"signalbox/api"
	"signalbox/units"
)

// made makes a kernel with process 1, which claims claim.
func made(t *testing.T, semas []int, regions int, totals []int, claimed bool, claim ...int) *Kernel {
	t.Helper()
	k, c := New(semas, regions, totals, 8, claimed)
	if c != api.OK || k == nil {
		t.Fatalf("New: %d", c)
	}
	is(t, "Start", told(k.Start(claim)), events(), api.OK)
	return k
}

// told is all that a call tells, as a text.
func told(l ...any) string {
	return fmt.Sprintln(l...)
}

// events are as many as there are arguments.
func events(l ...api.Event) []api.Event {
	return l
}

// is compares what was told, as a text.
func is(t *testing.T, what string, got string, want ...any) {
	t.Helper()
	if w := fmt.Sprintln(want...); got != w {
		t.Errorf("%s: %q; want %q", what, got, w)
	}
}

// fork lets 1 fork till there are n processes, which claim claim.
func fork(t *testing.T, k *Kernel, n int, claim ...int) {
	t.Helper()
	for pid := 2; pid <= n; pid++ {
		is(t, "Fork", told(k.Fork(1, claim)), pid, events(), api.OK)
	}
}

func block(pid, kind, index int) api.Event {
	return api.Event{Kind: api.EvBlock, Pid: pid, A: kind, B: index}
}

func grant(pid, sum int) api.Event {
	return api.Event{Kind: api.EvGrant, Pid: pid, A: sum}
}

func trap(pid int, c api.Code) api.Event {
	return api.Event{Kind: api.EvTrap, Pid: pid, A: int(c)}
}

func end(pid int) api.Event {
	return api.Event{Kind: api.EvEnd, Pid: pid}
}

func ready(t *testing.T, k *Kernel, want ...int) {
	t.Helper()
	if !slices.Equal(k.Procs().Ready(), want) {
		t.Errorf("ready are %v; want %v", k.Procs().Ready(), want)
	}
}

// P18.1: what New refuses and makes.
func TestNew(t *testing.T) {
	for i, r := range []struct {
		semas   []int
		regions int
		totals  []int
		most    int
		may     bool
	}{
		{nil, 0, nil, 1, true}, {make([]int, 8), 16, []int{1, 2, 3, 4, 5, 6}, 32, true}, {make([]int, 9), 0, nil, 1, false}, {[]int{-1}, 0, nil, 1, false}, {[]int{1001}, 0, nil, 1, false}, {[]int{1000}, 0, nil, 1, true},
		{nil, -1, nil, 1, false}, {nil, 17, nil, 1, false}, {nil, 0, []int{0}, 1, false}, {nil, 0, []int{1001}, 1, false}, {nil, 0, []int{1, 1, 1, 1, 1, 1, 1}, 1, false}, {nil, 0, nil, 0, false}, {nil, 0, nil, 33, false},
		{nil, api.Most, nil, 1, false}, {nil, 0, nil, api.Least, false},
	} {
		k, c := New(r.semas, r.regions, r.totals, r.most, true)
		if (k != nil) != r.may || (c == api.OK) != r.may || !r.may && c != api.ErrArg {
			t.Errorf("%d: %v, %d", i, k != nil, c)
		}
	}
	k, _ := New([]int{3, 0}, 2, []int{4}, 2, true)
	is(t, "parts", told(k.Sema(0).Value(), k.Sema(1).Value(), k.Sema(2) == nil, k.Sema(-1) == nil, k.Region(1) != nil, k.Region(2) == nil, k.Region(-1) == nil), 3, 0, true, true, true, true, true)
	is(t, "nobody", told(k.Procs().Count(), k.Alloc().Avail(), k.Alloc().Pids()), 0, []int{4}, []int{})
}

// P18.1: how the first process comes in.
func TestStart(t *testing.T) {
	k, _ := New(nil, 0, []int{2}, 2, true)
	is(t, "no units", told(k.Start(nil)), events(), api.ErrArg)
	is(t, "no units", told(k.Start([]int{1, 1})), events(), api.ErrArg)
	is(t, "nobody", told(k.Procs().Count()), 0)
	is(t, "Start", told(k.Start([]int{2})), events(), api.OK)
	is(t, "again", told(k.Start([]int{2})), events(), api.ErrState)
	is(t, "again", told(k.Start(nil)), events(), api.ErrState)
	is(t, "one", told(k.Procs().Parent(1), k.Alloc().Claim(1), k.Procs().Live()), 0, []int{2}, 1)
	k, _ = New(nil, 0, []int{2}, 2, true)
	is(t, "claims too much", told(k.Start([]int{3})), events(trap(1, api.TClaim)), api.OK)
	is(t, "trapped", told(k.Procs().State(1), k.Procs().Code(1), k.Alloc().Pids()), api.PTrapped, api.TClaim, []int{})
	is(t, "again", told(k.Start([]int{1})), events(), api.ErrState)
	k, _ = New(nil, 0, []int{2}, 2, false)
	is(t, "unclaimed", told(k.Start([]int{3})), events(), api.OK)
}

// P18.2: nobody who is not ready asks for anything.
func TestNotReady(t *testing.T) {
	k := made(t, []int{0}, 1, []int{2}, false, 0)
	fork(t, k, 3, 0)
	k.P(2, 0)
	k.End(3, api.OK)
	var none *Kernel
	for _, r := range []struct {
		k   *Kernel
		pid int
	}{{k, 2}, {k, 3}, {k, 4}, {k, 0}, {k, -1}, {k, api.Least}, {none, 1}, {&Kernel{}, 1}} {
		is(t, "Fork", told(r.k.Fork(r.pid, nil)), 0, events(), api.ErrState)
		is(t, "Join", told(r.k.Join(r.pid)), false, events(), api.ErrState)
		is(t, "P", told(r.k.P(r.pid, 9)), false, events(), api.ErrState)
		is(t, "V", told(r.k.V(r.pid, 9)), api.ErrState)
		is(t, "Enter", told(r.k.Enter(r.pid, 9)), false, events(), api.ErrState)
		is(t, "Await", told(r.k.Await(r.pid, 9, true)), false, events(), api.ErrState)
		is(t, "Leave", told(r.k.Leave(r.pid, 9)), api.ErrState)
		is(t, "Request", told(r.k.Request(r.pid, nil)), false, events(), api.ErrState)
		is(t, "Release", told(r.k.Release(r.pid, nil)), events(), api.ErrState)
		is(t, "End", told(r.k.End(r.pid, api.TZero)), events(), false)
	}
	is(t, "Start", told(none.Start(nil)), events(), api.ErrState)
	is(t, "Start", told((&Kernel{}).Start(nil)), events(), api.ErrState)
	if none.Procs() != nil || none.Alloc() != nil || none.Sema(0) != nil || none.Region(0) != nil {
		t.Error("a nil Kernel has parts")
	}
	ready(t, k, 1)
}

// P18.2: forks: what is refused in which order; who claims too much is trapped at once.
func TestFork(t *testing.T) {
	k, _ := New(nil, 0, []int{2}, 2, true)
	k.Start([]int{2})
	is(t, "no units", told(k.Fork(1, []int{-1})), 0, events(), api.ErrArg)
	is(t, "no units", told(k.Fork(1, []int{1, 1})), 0, events(), api.ErrArg)
	k.Request(1, []int{1})
	is(t, "no units first", told(k.Fork(1, nil)), 0, events(), api.ErrArg)
	is(t, "holds something", told(k.Fork(1, []int{1})), 0, events(), api.TFork)
	k.Release(1, []int{1})
	is(t, "claims too much", told(k.Fork(1, []int{3})), 2, events(trap(2, api.TClaim)), api.OK)
	is(t, "trapped", told(k.Procs().State(2), k.Procs().Code(2), k.Procs().Parent(2)), api.PTrapped, api.TClaim, 1)
	is(t, "Fork", told(k.Fork(1, []int{1})), 3, events(), api.OK)
	is(t, "too many", told(k.Fork(1, []int{1})), 0, events(), api.TProcs)
	is(t, "too many", told(k.Fork(3, []int{3})), 0, events(), api.TProcs)
	k.Request(1, []int{1})
	is(t, "holds something first", told(k.Fork(1, []int{1})), 0, events(), api.TFork)
	is(t, "child", told(k.Procs().Parent(3), k.Alloc().Claim(3), k.Procs().Count()), 1, []int{1}, 3)
}

// P18.2: who joins waits for all that it forked.
func TestJoin(t *testing.T) {
	k := made(t, nil, 0, nil, true)
	is(t, "nobody", told(k.Join(1)), true, events(), api.OK)
	fork(t, k, 3)
	is(t, "two", told(k.Join(1)), false, events(block(1, api.WJoin, 0)), api.OK)
	ready(t, k, 2, 3)
	is(t, "End", told(k.End(3, api.OK)), events(end(3)), true)
	ready(t, k, 2)
	is(t, "End", told(k.End(2, api.TZero)), events(trap(2, api.TZero)), true)
	ready(t, k, 1)
	is(t, "End", told(k.End(1, api.OK)), events(end(1)), true)
	is(t, "states", told(k.Procs().State(1), k.Procs().Code(2), k.Procs().Live()), api.PEnded, api.TZero, 0)
}

// P18.3: the document's example, and semaphores.
func TestSemas(t *testing.T) {
	k := made(t, []int{0, 1}, 0, nil, true)
	fork(t, k, 4)
	is(t, "P", told(k.P(2, 1)), true, events(), api.OK)
	for _, s := range []int{-1, 2, api.Most, api.Least} {
		is(t, "P of none", told(k.P(1, s)), false, events(), api.ErrNone)
		is(t, "V of none", told(k.V(1, s)), api.ErrNone)
	}
	is(t, "P", told(k.P(1, 0)), false, events(block(1, api.WSema, 0)), api.OK)
	is(t, "P", told(k.P(3, 1)), false, events(block(3, api.WSema, 1)), api.OK)
	is(t, "P", told(k.P(4, 0)), false, events(block(4, api.WSema, 0)), api.OK)
	ready(t, k, 2)
	is(t, "why", told(k.Procs().Why(3), k.Sema(0).Waits()), api.Why{Kind: api.WSema, Index: 1}, []int{1, 4})
	is(t, "V", told(k.V(2, 0)), api.OK)
	ready(t, k, 1, 2)
	is(t, "V", told(k.V(1, 1)), api.OK)
	ready(t, k, 1, 2, 3)
	is(t, "V", told(k.V(1, 0)), api.OK)
	is(t, "V", told(k.V(1, 0)), api.OK)
	ready(t, k, 1, 2, 3, 4)
	is(t, "value", told(k.Sema(0).Value(), k.Sema(0).Ps(), k.Sema(0).Vs()), 1, 2, 3)
}

// P18.3: regions: who enters, waits, is let in again.
func TestRegions(t *testing.T) {
	k := made(t, nil, 2, nil, true)
	fork(t, k, 4)
	is(t, "Enter", told(k.Enter(1, 1)), true, events(), api.OK)
	is(t, "Enter", told(k.Enter(1, 1)), false, events(), api.TRegion)
	is(t, "Leave", told(k.Leave(2, 1)), api.TRegion)
	is(t, "Await", told(k.Await(2, 1, true)), false, events(), api.TRegion)
	is(t, "Await", told(k.Await(2, 0, false)), false, events(), api.TRegion)
	for _, v := range []int{-1, 2, api.Most, api.Least} {
		is(t, "Enter of none", told(k.Enter(1, v)), false, events(), api.ErrNone)
		is(t, "Await of none", told(k.Await(1, v, true)), false, events(), api.ErrNone)
		is(t, "Leave of none", told(k.Leave(1, v)), api.ErrNone)
	}
	is(t, "Await", told(k.Await(1, 1, true)), true, events(), api.OK)
	is(t, "Enter", told(k.Enter(2, 1)), false, events(block(2, api.WEnter, 1)), api.OK)
	is(t, "Enter", told(k.Enter(3, 1)), false, events(block(3, api.WEnter, 1)), api.OK)
	is(t, "Await", told(k.Await(1, 1, false)), false, events(block(1, api.WAwait, 1)), api.OK)
	ready(t, k, 2, 4)
	is(t, "Enter", told(k.Enter(4, 0)), true, events(), api.OK)
	is(t, "Enter", told(k.Enter(4, 1)), false, events(block(4, api.WEnter, 1)), api.OK)
	is(t, "Leave", told(k.Leave(2, 1)), api.OK)
	is(t, "queues", told(k.Region(1).Occupant(), k.Region(1).Entry(), k.Region(1).Waits(), k.Region(0).Occupant()), 1, []int{3, 4}, []int{}, 4)
	ready(t, k, 1, 2)
	is(t, "Await", told(k.Await(1, 1, false)), false, events(block(1, api.WAwait, 1)), api.OK)
	ready(t, k, 2, 3)
	is(t, "why", told(k.Procs().Why(1), k.Procs().Why(4)), api.Why{Kind: api.WAwait, Index: 1}, api.Why{Kind: api.WEnter, Index: 1})
	is(t, "Leave", told(k.Leave(3, 1)), api.OK)
	ready(t, k, 1, 2, 3)
	is(t, "Leave", told(k.Leave(1, 1)), api.OK)
	ready(t, k, 1, 2, 3, 4)
	is(t, "Leave", told(k.Leave(4, 1)), api.OK)
	is(t, "nobody", told(k.Region(1).Occupant(), k.Region(0).Occupant()), 0, 4)
}

// P18.4: units: who asks, gives back, is granted.
func TestUnits(t *testing.T) {
	k := made(t, nil, 0, []int{3, 2}, true, 3, 2)
	fork(t, k, 4, 2, 2)
	is(t, "no units", told(k.Request(1, []int{1})), false, events(), api.ErrArg)
	is(t, "no units", told(k.Release(1, []int{1})), events(), api.ErrArg)
	is(t, "no units", told(k.Request(1, []int{4, -1})), false, events(), api.ErrArg)
	is(t, "too many", told(k.Request(1, []int{3, 3})), false, events(), api.TClaim)
	is(t, "too many", told(k.Release(1, []int{1, 0})), events(), api.TRelease)
	ready(t, k, 1, 2, 3, 4)
	is(t, "Request", told(k.Request(1, []int{2, 1})), true, events(grant(1, 3)), api.OK)
	is(t, "too many", told(k.Request(1, []int{2, 0})), false, events(), api.TClaim)
	is(t, "Request", told(k.Request(2, []int{2, 1})), false, events(block(2, api.WUnits, 3)), api.OK)
	is(t, "Request", told(k.Request(3, []int{1, 0})), false, events(block(3, api.WUnits, 1)), api.OK)
	is(t, "Request", told(k.Request(4, []int{0, 0})), false, events(block(4, api.WUnits, 0)), api.OK)
	ready(t, k, 1)
	is(t, "why", told(k.Procs().Why(2), k.Procs().Why(4)), api.Why{Kind: api.WUnits, Index: 3}, api.Why{Kind: api.WUnits})
	is(t, "Release", told(k.Release(1, []int{1, 0})), events(), api.OK)
	is(t, "Release", told(k.Release(1, []int{1, 1})), events(grant(2, 3), grant(3, 1), grant(4, 0)), api.OK)
	ready(t, k, 1, 2, 3, 4)
	is(t, "held", told(k.Alloc().Held(1), k.Alloc().Held(2), k.Alloc().Held(3), k.Alloc().Avail()), []int{0, 0}, []int{2, 1}, []int{1, 0}, []int{0, 1})
	is(t, "more than it claimed", told(k.Request(2, []int{1, 0})), false, events(), api.TClaim)
}

// P18.4: in unclaimed mode what is there is granted.
func TestUnclaimed(t *testing.T) {
	k := made(t, nil, 0, []int{2}, false, 0)
	fork(t, k, 2, 0)
	is(t, "Request", told(k.Request(1, []int{1})), true, events(grant(1, 1)), api.OK)
	is(t, "Request", told(k.Request(2, []int{1})), true, events(grant(2, 1)), api.OK)
	is(t, "Request", told(k.Request(1, []int{1})), false, events(block(1, api.WUnits, 1)), api.OK)
	is(t, "Request", told(k.Request(2, []int{1000})), false, events(block(2, api.WUnits, 1000)), api.OK)
	ready(t, k)
	is(t, "stuck", told(k.Alloc().Stuck()), []int{1, 2})
}

// P18.5: who ends leaves its regions, by number, gives back what it holds, and lets its parent go on.
func TestEnd(t *testing.T) {
	k := made(t, nil, 3, []int{3}, false, 0)
	fork(t, k, 5, 0)
	k.Enter(2, 2)
	k.Enter(2, 0)
	k.Request(2, []int{3})
	is(t, "Enter", told(k.Enter(3, 2)), false, events(block(3, api.WEnter, 2)), api.OK)
	is(t, "Request", told(k.Request(4, []int{2})), false, events(block(4, api.WUnits, 2)), api.OK)
	is(t, "Request", told(k.Request(5, []int{1})), false, events(block(5, api.WUnits, 1)), api.OK)
	k.Join(1)
	ready(t, k, 2)
	is(t, "End", told(k.End(2, api.TOver)), events(trap(2, api.TOver), grant(4, 2), grant(5, 1)), true)
	ready(t, k, 3, 4, 5)
	is(t, "behind", told(k.Region(2).Occupant(), k.Region(0).Occupant(), k.Alloc().Pids(), k.Procs().Code(2)), 3, 0, []int{1, 3, 4, 5}, api.TOver)
	for _, pid := range []int{3, 4, 5} {
		is(t, "End", told(k.End(pid, api.OK)), events(end(pid)), true)
	}
	ready(t, k, 1)
	is(t, "behind", told(k.Alloc().Avail(), k.Region(2).Occupant()), []int{3}, 0)
}

// P18.5: a call that tells a trap has changed nothing.
func TestTrapsChangeNothing(t *testing.T) {
	k := made(t, []int{0}, 1, []int{2}, true, 1)
	look := func() string {
		return told(k.Procs().Ready(), k.Procs().Count(), k.Alloc().Avail(), k.Alloc().Pending(), k.Region(0).Occupant(), k.Region(0).Entry(), k.Sema(0).Value())
	}
	k.Enter(1, 0)
	k.Request(1, []int{1})
	before := look()
	k.Fork(1, []int{1})
	k.Fork(1, nil)
	k.Enter(1, 0)
	k.Request(1, []int{1})
	k.Release(1, []int{2})
	k.P(1, 1)
	k.V(1, -1)
	k.Leave(1, 1)
	if look() != before {
		t.Error(before, look())
	}
}

// next is the next number of a row that looks like chance, below n.
func next(seed *uint32, n int) int {
	*seed = *seed*1664525 + 1013904223
	return int(*seed>>8) % n
}

// places is at how many places pid waits.
func places(k *Kernel, pid int) int {
	n := 0
	for i := range 2 {
		for _, l := range [][]int{k.Sema(i).Waits(), k.Region(i).Entry(), k.Region(i).Waits()} {
			for _, q := range l {
				if q == pid {
					n++
				}
			}
		}
	}
	for _, p := range k.Alloc().Pending() {
		if p.Pid == pid {
			n++
		}
	}
	if k.Procs().Why(pid).Kind == api.WJoin && k.Procs().Kids(pid) > 0 {
		n++
	}
	return n
}

// P18.7: a process is blocked just if it waits at one place, whatever is asked.
func TestBlockedAtOnePlace(t *testing.T) {
	seed := uint32(11)
	for round := range 60 {
		k := made(t, []int{1, 0}, 2, []int{3, 2}, round%2 == 0, 2, 2)
		for range 200 {
			pid, i, u := 1+next(&seed, k.Procs().Count()+1), next(&seed, 3)-1+next(&seed, 2), []int{next(&seed, 3), next(&seed, 3)}
			switch next(&seed, 12) {
			case 0, 1:
				k.Fork(pid, u)
			case 2:
				k.Join(pid)
			case 3:
				k.P(pid, i)
			case 4:
				k.V(pid, i)
			case 5, 6:
				k.Enter(pid, i)
			case 7:
				k.Await(pid, i, next(&seed, 2) == 0)
			case 8:
				k.Leave(pid, i)
			case 9:
				k.Request(pid, u)
			case 10:
				k.Release(pid, u)
			case 11:
				k.End(pid, []api.Code{api.OK, api.TZero}[next(&seed, 2)])
			}
			for pid := 1; pid <= k.Procs().Count(); pid++ {
				want := 0
				if k.Procs().State(pid) == api.PBlocked {
					want = 1
				}
				if places(k, pid) != want {
					t.Fatal(pid, k.Procs().State(pid), k.Procs().Why(pid), places(k, pid))
				}
			}
		}
	}
}

// P18.1 (rule 3): what is handed in is not kept, nor changed.
func TestMemory(t *testing.T) {
	semas, totals, claim, u := []int{1}, []int{2}, []int{2}, []int{1}
	k, _ := New(semas, 0, totals, 3, true)
	semas[0], totals[0] = 7, 7
	k.Start(claim)
	claim[0] = 7
	_, l, _ := k.Request(1, u)
	l[0].A = 9
	u[0] = 9
	is(t, "kept", told(k.Sema(0).Value(), k.Alloc().Avail(), k.Alloc().Claim(1), k.Alloc().Held(1), units.Sum(k.Alloc().Held(1))), 1, []int{1}, []int{2}, []int{1}, 1)
}

// P18.6 (rule 1): parts that somebody has turned make no panic.
func TestTurnedParts(t *testing.T) {
	k := made(t, []int{0}, 1, []int{2}, true, 2)
	fork(t, k, 3, 1)
	k.Alloc().Leave(1)
	k.Request(1, []int{1})
	k.Release(1, []int{1})
	k.Region(0).Enter(99)
	k.Enter(1, 0)
	k.Procs().End(2, api.OK)
	k.Join(3)
	k.End(3, api.OK)
	k.Fork(1, []int{1})
	k.End(1, api.OK)
}
