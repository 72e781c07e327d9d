package region

import (
	"slices"
	"testing"

	"signalbox/api"
)

func fits(t *testing.T, r *Region, occupant int, entry, waits []int) {
	t.Helper()
	if r.Occupant() != occupant || !slices.Equal(r.Entry(), entry) || !slices.Equal(r.Waits(), waits) {
		t.Errorf("%d, %v, %v; want %d, %v, %v", r.Occupant(), r.Entry(), r.Waits(), occupant, entry, waits)
	}
}

// next: who is told to be in it now.
func next(t *testing.T, pid int, ok bool, want int, is bool) {
	t.Helper()
	if pid != want || ok != is {
		t.Errorf("%d, %v; want %d, %v", pid, ok, want, is)
	}
}

func enter(t *testing.T, r *Region, pid int, want bool) {
	t.Helper()
	if r.Enter(pid) != want {
		t.Errorf("Enter(%d) is %v", pid, !want)
	}
}

// P12.1: the document's example.
func TestExample(t *testing.T) {
	r := New()
	fits(t, r, 0, nil, nil)
	enter(t, r, 1, true)
	pid, ok := r.Fail(1)
	next(t, pid, ok, 0, true)
	fits(t, r, 0, nil, []int{1})
	enter(t, r, 2, true)
	enter(t, r, 3, false)
	fits(t, r, 2, []int{3}, []int{1})
	pid, ok = r.Leave(2)
	next(t, pid, ok, 1, true)
	fits(t, r, 1, []int{3}, nil)
}

// P12.1, P12.3: whoever waited is asked again behind each Leave, in order, ahead of those that wait to enter.
func TestQueues(t *testing.T) {
	r := New()
	enter(t, r, 1, true)
	for _, pid := range []int{2, 3, 4} {
		enter(t, r, pid, false)
	}
	pid, ok := r.Fail(1)
	next(t, pid, ok, 2, true)
	pid, ok = r.Fail(2)
	next(t, pid, ok, 3, true)
	enter(t, r, 5, false)
	fits(t, r, 3, []int{4, 5}, []int{1, 2})
	pid, ok = r.Leave(3)
	next(t, pid, ok, 1, true)
	fits(t, r, 1, []int{2, 4, 5}, nil)
	pid, ok = r.Fail(1)
	next(t, pid, ok, 2, true)
	pid, ok = r.Fail(2)
	next(t, pid, ok, 4, true)
	fits(t, r, 4, []int{5}, []int{1, 2})
	pid, ok = r.Leave(4)
	next(t, pid, ok, 1, true)
	fits(t, r, 1, []int{2, 5}, nil)
	for _, step := range [][2]int{{1, 2}, {2, 5}, {5, 0}} {
		pid, ok = r.Leave(step[0])
		next(t, pid, ok, step[1], true)
	}
	fits(t, r, 0, nil, nil)
}

// P12.1: nobody, and whoever is not in it, does nothing.
func TestRefuses(t *testing.T) {
	r := New()
	for _, pid := range []int{api.Least, -1, 0} {
		enter(t, r, pid, false)
		told, ok := r.Fail(pid)
		next(t, told, ok, 0, false)
		told, ok = r.Leave(pid)
		next(t, told, ok, 0, false)
	}
	fits(t, r, 0, nil, nil)
	enter(t, r, 7, true)
	enter(t, r, 8, false)
	for _, pid := range []int{0, -7, 8, 9} {
		told, ok := r.Fail(pid)
		next(t, told, ok, 0, false)
		told, ok = r.Leave(pid)
		next(t, told, ok, 0, false)
	}
	fits(t, r, 7, []int{8}, nil)
	enter(t, r, 7, false)
	fits(t, r, 7, []int{8, 7}, nil)
}

// P12.2 (rules 3, 7 and 9): new memory, regions with nothing in common, a nil Region.
func TestMemoryAndNil(t *testing.T) {
	r, other := New(), New()
	for pid := 1; pid < 5; pid++ {
		r.Enter(pid)
	}
	r.Fail(1)
	r.Entry()[0], r.Waits()[0] = 9, 9
	fits(t, r, 2, []int{3, 4}, []int{1})
	fits(t, other, 0, nil, nil)
	var none *Region
	enter(t, none, 1, false)
	pid, ok := none.Fail(1)
	next(t, pid, ok, 0, false)
	pid, ok = none.Leave(1)
	next(t, pid, ok, 0, false)
	fits(t, none, 0, nil, nil)
}
