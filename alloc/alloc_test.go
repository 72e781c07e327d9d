package alloc

import (
	"fmt"
	"slices"
	"testing"

	"signalbox/api"
	"signalbox/bank"
	"signalbox/units"
)

func made(t *testing.T, claimed bool, totals ...int) *Alloc {
	t.Helper()
	a, c := New(totals, claimed)
	if c != api.OK || a == nil {
		t.Fatalf("New(%v): %d", totals, c)
	}
	return a
}

// is compares what was told, as a text.
func is(t *testing.T, what string, got string, want ...any) {
	t.Helper()
	if w := fmt.Sprintln(want...); got != w {
		t.Errorf("%s: %q; want %q", what, got, w)
	}
}

// told is all that a call tells, as a text.
func told(l ...any) string {
	return fmt.Sprintln(l...)
}

func admit(t *testing.T, a *Alloc, pid int, claim ...int) {
	t.Helper()
	if c := a.Admit(pid, claim); c != api.OK {
		t.Errorf("Admit(%d, %v): %d", pid, claim, c)
	}
}

func ask(t *testing.T, a *Alloc, pid int, granted []int, u ...int) {
	t.Helper()
	if l, c := a.Ask(pid, u); !slices.Equal(l, granted) || c != api.OK {
		t.Errorf("Ask(%d, %v): %v, %d; want %v", pid, u, l, c, granted)
	}
}

func give(t *testing.T, a *Alloc, pid int, granted []int, u ...int) {
	t.Helper()
	if l, c := a.Give(pid, u); !slices.Equal(l, granted) || c != api.OK {
		t.Errorf("Give(%d, %v): %v, %d; want %v", pid, u, l, c, granted)
	}
}

// P16.1: which totals may be.
func TestNew(t *testing.T) {
	for _, totals := range [][]int{{0}, {-1}, {1001}, {1, 0}, {1, 1, 1, 1, 1, 1, 1}, {api.Most}, {api.Least}} {
		if a, c := New(totals, true); a != nil || c != api.ErrArg {
			t.Errorf("New(%v): %d", totals, c)
		}
	}
	for _, totals := range [][]int{nil, {1}, {1000, 1, 2, 3, 4, 5}} {
		a := made(t, false, totals...)
		is(t, "New", told(a.Avail(), a.Pids(), a.Pending(), a.Safe(), a.Stuck()), append([]int{}, totals...), []int{}, []int{}, true, []int{})
	}
}

// P16.1: who may come in, and in which order that is looked for.
func TestAdmit(t *testing.T) {
	a := made(t, true, 2, 3)
	for _, r := range []struct {
		pid   int
		claim []int
		want  api.Code
	}{
		{0, []int{1, 1}, api.ErrArg}, {-1, []int{1, 1}, api.ErrArg}, {api.Least, []int{1, 1}, api.ErrArg}, {1, nil, api.ErrArg}, {1, []int{1}, api.ErrArg}, {1, []int{1, 1, 1}, api.ErrArg},
		{1, []int{-1, 0}, api.ErrArg}, {1, []int{1001, 0}, api.ErrArg}, {1, []int{3, 3}, api.TClaim}, {1, []int{0, 4}, api.TClaim}, {1, []int{2, 3}, api.OK}, {1, []int{3, 3}, api.ErrState}, {1, []int{3}, api.ErrArg},
		{1, []int{0, 0}, api.ErrState}, {9, []int{0, 0}, api.OK}, {5, []int{1, 0}, api.OK},
	} {
		if c := a.Admit(r.pid, r.claim); c != r.want {
			t.Errorf("Admit(%d, %v): %d; want %d", r.pid, r.claim, c, r.want)
		}
	}
	is(t, "in", told(a.Pids(), a.Held(1), a.Claim(1), a.Held(9), a.Claim(5), a.Held(2), a.Claim(2)), []int{1, 5, 9}, []int{0, 0}, []int{2, 3}, []int{0, 0}, []int{1, 0}, []int{}, []int{})
	a = made(t, false, 2)
	admit(t, a, 1, 1000)
	for pid := 2; pid <= api.MaxLive; pid++ {
		admit(t, a, pid, 0)
	}
	if a.Admit(33, []int{0}) != api.ErrArg || a.Admit(32, []int{0}) != api.ErrState || len(a.Pids()) != api.MaxLive {
		t.Error("one too many")
	}
	a.Leave(3)
	admit(t, a, 33, 0)
	a = made(t, true, 1)
	for pid := 1; pid <= api.MaxLive; pid++ {
		admit(t, a, pid, 0)
	}
	if c := a.Admit(40, []int{2}); c != api.ErrArg {
		t.Error("one too many, ahead of its claim:", c)
	}
}

// P16.2: what Ask and Give refuse, in order, and that nothing is changed then.
func TestRefuses(t *testing.T) {
	a := made(t, true, 3)
	admit(t, a, 1, 2)
	admit(t, a, 2, 3)
	ask(t, a, 1, []int{1}, 1)
	ask(t, a, 2, nil, 2)
	for _, r := range []struct {
		pid  int
		u    []int
		want api.Code
	}{
		{3, []int{1}, api.ErrNone}, {0, nil, api.ErrNone}, {-1, []int{1}, api.ErrNone}, {1, nil, api.ErrArg}, {1, []int{1, 1}, api.ErrArg}, {1, []int{-1}, api.ErrArg}, {1, []int{1001}, api.ErrArg},
		{2, []int{1, 1}, api.ErrArg}, {2, []int{1}, api.ErrState}, {2, []int{9}, api.ErrState}, {1, []int{2}, api.TClaim}, {1, []int{1000}, api.TClaim},
	} {
		if l, c := a.Ask(r.pid, r.u); c != r.want || l != nil {
			t.Errorf("Ask(%d, %v): %v, %d; want %d", r.pid, r.u, l, c, r.want)
		}
	}
	for _, r := range []struct {
		pid  int
		u    []int
		want api.Code
	}{
		{3, []int{1}, api.ErrNone}, {3, nil, api.ErrNone}, {1, nil, api.ErrArg}, {1, []int{-1}, api.ErrArg}, {1, []int{1001}, api.ErrArg}, {1, []int{1, 0}, api.ErrArg}, {1, []int{2}, api.TRelease}, {2, []int{1}, api.TRelease},
	} {
		if l, c := a.Give(r.pid, r.u); c != r.want || l != nil {
			t.Errorf("Give(%d, %v): %v, %d; want %d", r.pid, r.u, l, c, r.want)
		}
	}
	for _, pid := range []int{0, 3, -1, api.Most} {
		if l, ok := a.Leave(pid); ok || l != nil {
			t.Errorf("Leave(%d): %v, %v", pid, l, ok)
		}
	}
	is(t, "nothing changed", told(a.Avail(), a.Held(1), a.Held(2), a.Pending()), []int{2}, []int{1}, []int{0}, []Ask{{2, []int{2}}})
}

// P16.3: the document's example: what would not be safe is pending, and is granted later.
func TestBanker(t *testing.T) {
	a := made(t, true, 2)
	admit(t, a, 1, 2)
	admit(t, a, 2, 2)
	ask(t, a, 1, []int{1}, 1)
	ask(t, a, 2, nil, 1)
	is(t, "pending", told(a.Avail(), a.Held(1), a.Held(2), a.Pending(), a.Safe()), []int{1}, []int{1}, []int{0}, []Ask{{2, []int{1}}}, true)
	ask(t, a, 1, []int{1}, 1)
	give(t, a, 1, nil, 1)
	give(t, a, 1, []int{2}, 1)
	is(t, "granted", told(a.Avail(), a.Held(1), a.Held(2), a.Pending()), []int{1}, []int{0}, []int{1}, []Ask{})
	l, ok := a.Leave(2)
	is(t, "Leave", told(l, ok, a.Avail(), a.Pids(), a.Held(2), a.Claim(2)), []int{}, true, []int{2}, []int{1}, []int{}, []int{})
}

// P16.3: in claimed mode who holds nothing waits behind the others; in unclaimed mode nobody does.
func TestWhoHoldsNothing(t *testing.T) {
	for _, claimed := range []bool{true, false} {
		a := made(t, claimed, 3)
		for pid := 1; pid <= 4; pid++ {
			admit(t, a, pid, 3)
		}
		ask(t, a, 1, []int{1}, 2)
		ask(t, a, 2, nil, 3)
		want := []int{3}
		if claimed {
			want = nil
		}
		ask(t, a, 3, want, 0)
		if !claimed {
			ask(t, a, 3, []int{3}, 1)
			continue
		}
		// Who holds something goes ahead of those that wait.
		ask(t, a, 1, []int{1}, 1)
		give(t, a, 1, nil, 1)
		is(t, "pending", told(a.Pending()), []Ask{{2, []int{3}}, {3, []int{0}}})
		give(t, a, 1, []int{2, 3}, 2)
	}
}

// P16.3: one scan goes through once, in order; each granted one counts for the next ones.
func TestScanInOrder(t *testing.T) {
	a := made(t, false, 4)
	for pid := 1; pid <= 5; pid++ {
		admit(t, a, pid, 0)
	}
	ask(t, a, 5, []int{5}, 4)
	ask(t, a, 4, nil, 1)
	ask(t, a, 2, nil, 3)
	ask(t, a, 3, nil, 1)
	ask(t, a, 1, nil, 2)
	give(t, a, 5, []int{4, 3}, 2)
	is(t, "pending", told(a.Pending(), a.Avail()), []Ask{{2, []int{3}}, {1, []int{2}}}, []int{0})
	l, ok := a.Leave(5)
	is(t, "Leave", told(l, ok, a.Pending(), a.Avail()), []int{1}, true, []Ask{{2, []int{3}}}, []int{0})
	l, ok = a.Leave(2)
	is(t, "Leave of one that waits", told(l, ok, a.Pending()), []int{}, true, []Ask{})
}

// P16.2: who gives back while its ask is pending may be granted by that.
func TestGiveWhilePending(t *testing.T) {
	a := made(t, false, 2, 1)
	admit(t, a, 1, 0, 0)
	admit(t, a, 2, 0, 0)
	ask(t, a, 1, []int{1}, 1, 0)
	ask(t, a, 1, nil, 2, 0)
	give(t, a, 1, []int{1}, 1, 0)
	is(t, "held", told(a.Held(1), a.Avail()), []int{2, 0}, []int{0, 1})
}

// P16.4: Safe and Stuck, of all that are in.
func TestSafeAndStuck(t *testing.T) {
	a := made(t, false, 1, 1)
	admit(t, a, 7, 1, 1)
	admit(t, a, 4, 1, 1)
	admit(t, a, 5, 0, 0)
	ask(t, a, 7, []int{7}, 1, 0)
	ask(t, a, 4, []int{4}, 0, 1)
	is(t, "ahead", told(a.Safe(), a.Stuck()), false, []int{})
	ask(t, a, 7, nil, 0, 1)
	is(t, "one waits", told(a.Stuck()), []int{})
	ask(t, a, 4, nil, 1, 0)
	is(t, "two wait", told(a.Stuck(), a.Pids()), []int{4, 7}, []int{4, 5, 7})
	ask(t, a, 5, nil, 2, 0)
	is(t, "three wait", told(a.Stuck()), []int{4, 5, 7})
	l, _ := a.Leave(4)
	is(t, "one has left", told(l, a.Stuck()), []int{7}, []int{5})
	// In unclaimed mode more may be held than was claimed: that is no state of the banker's.
	a = made(t, false, 2)
	admit(t, a, 1, 1)
	ask(t, a, 1, []int{1}, 2)
	is(t, "more than claimed", told(a.Safe(), a.Held(1), a.Claim(1)), false, []int{2}, []int{1})
}

// P16.1, P16.4: without classes.
func TestNoClasses(t *testing.T) {
	a := made(t, true)
	admit(t, a, 1)
	admit(t, a, 2)
	ask(t, a, 1, []int{1})
	give(t, a, 1, nil)
	is(t, "none", told(a.Avail(), a.Held(1), a.Safe(), a.Stuck(), a.Pids()), []int{}, []int{}, true, []int{}, []int{1, 2})
	a.Leave(1)
	is(t, "one has left", told(a.Pids()), []int{2})
}

// next is the next number of a row that looks like chance, below n.
func next(seed *uint32, n int) int {
	*seed = *seed*1664525 + 1013904223
	return int(*seed>>8) % n
}

// check: P16.5, of what is told of a.
func check(t *testing.T, a *Alloc, totals []int, claimed bool) {
	t.Helper()
	all, held, claim := a.Avail(), [][]int{}, [][]int{}
	for _, pid := range a.Pids() {
		h := a.Held(pid)
		for c := range all {
			all[c] += h[c]
		}
		held, claim = append(held, h), append(claim, a.Claim(pid))
		if claimed && !units.Fits(h, a.Claim(pid)) {
			t.Fatal(pid, "holds more than it claimed")
		}
	}
	if !slices.Equal(all, totals) || claimed && !a.Safe() || a.Safe() != bank.Safe(a.Avail(), held, claim) {
		t.Fatal(all, totals, a.Safe())
	}
	ahead := false
	for _, p := range a.Pending() {
		at := slices.Index(a.Pids(), p.Pid)
		left, ok := units.Less(a.Avail(), p.Units)
		if ok && claimed {
			then := slices.Clone(held)
			then[at], ok = units.Plus(held[at], p.Units)
			ok = ok && bank.Safe(left, then, claim) && (!ahead || !units.None(held[at]))
		}
		if ok {
			t.Fatal(p, "could be granted")
		}
		ahead = true
	}
}

// P16.5: what holds behind each call, whatever is asked.
func TestAlways(t *testing.T) {
	seed := uint32(3)
	for round := range 300 {
		claimed := round%2 == 0
		totals := []int{1 + next(&seed, 4), 1 + next(&seed, 3)}
		a := made(t, claimed, totals...)
		for range 60 {
			pid, u := 1+next(&seed, 5), []int{next(&seed, 4), next(&seed, 3)}
			before := len(a.Pending())
			var granted []int
			switch next(&seed, 5) {
			case 0:
				a.Admit(pid, u)
			case 1, 2:
				if l, c := a.Ask(pid, u); c == api.OK {
					granted = l
					before++
				}
			case 3:
				granted, _ = a.Give(pid, u)
			case 4:
				if next(&seed, 3) == 0 {
					if slices.ContainsFunc(a.Pending(), func(p Ask) bool { return p.Pid == pid }) {
						before--
					}
					granted, _ = a.Leave(pid)
				}
			}
			if len(a.Pending()) != before-len(granted) {
				t.Fatal("granted", granted, "pending", a.Pending())
			}
			check(t, a, totals, claimed)
		}
	}
}

// P16.1, P16.4 (rule 3): what is handed in is not kept, what is told is new memory.
func TestMemory(t *testing.T) {
	totals, claim, u := []int{2, 2}, []int{2, 1}, []int{1, 1}
	a := made(t, true, totals...)
	a.Admit(1, claim)
	admit(t, a, 2, 2, 2)
	ask(t, a, 2, []int{2}, 1, 1)
	a.Ask(1, u)
	totals[0], claim[0], u[0] = 9, 9, 9
	a.Avail()[0], a.Held(2)[0], a.Claim(1)[0], a.Pids()[0] = 8, 8, 8, 8
	a.Pending()[0].Units[0], a.Pending()[0].Pid = 8, 8
	is(t, "kept", told(a.Avail(), a.Held(2), a.Claim(1), a.Pids(), a.Pending()), []int{1, 1}, []int{1, 1}, []int{2, 1}, []int{1, 2}, []Ask{{1, []int{1, 1}}})
}

// P16.4 (rule 9): a nil Alloc.
func TestNil(t *testing.T) {
	var a *Alloc
	l, c := a.Ask(1, nil)
	g, d := a.Give(1, nil)
	out, ok := a.Leave(1)
	if a.Admit(0, nil) != api.ErrNone || l != nil || c != api.ErrNone || g != nil || d != api.ErrNone || out != nil || ok {
		t.Error("a nil Alloc tells something")
	}
	if a.Avail() != nil || a.Held(1) != nil || a.Claim(1) != nil || a.Pids() != nil || a.Pending() != nil || a.Safe() || a.Stuck() != nil {
		t.Error("a nil Alloc tells something")
	}
}
