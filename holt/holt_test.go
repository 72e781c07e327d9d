package holt

import (
	"slices"
	"testing"

	"signalbox/api"
)

// rows are as many rows as there are arguments.
func rows(l ...[]int) [][]int {
	return l
}

// P15.1: what a state is.
func TestMay(t *testing.T) {
	many := func(n int) [][]int {
		l := make([][]int, n)
		for i := range l {
			l[i] = []int{1}
		}
		return l
	}
	for i, r := range []struct {
		avail      []int
		held, asks [][]int
		may        bool
	}{
		{nil, nil, nil, true},
		{nil, rows(nil), rows(nil), true},
		{[]int{0}, rows([]int{1}), rows([]int{5}), true},
		{[]int{0}, rows([]int{1}), rows(), false},
		{[]int{0}, rows([]int{1}), rows([]int{1, 0}), false},
		{[]int{0}, rows([]int{1, 0}), rows([]int{1}), false},
		{[]int{0}, rows(nil), rows([]int{1}), false},
		{[]int{0}, rows([]int{1001}), rows([]int{1}), false},
		{[]int{0}, rows([]int{1}), rows([]int{-1}), false},
		{[]int{-1}, nil, nil, false},
		{[]int{1001}, nil, nil, false},
		{make([]int, 6), nil, nil, true},
		{make([]int, 7), nil, nil, false},
		{[]int{0}, many(api.MaxLive), many(api.MaxLive), true},
		{[]int{0}, many(api.MaxLive + 1), many(api.MaxLive + 1), false},
	} {
		if May(r.avail, r.held, r.asks) != r.may {
			t.Errorf("%d: May is %v", i, !r.may)
		}
		if !r.may && (Stuck(r.avail, r.held, r.asks) != nil || Deadlocked(r.avail, r.held, r.asks, []int{0})) {
			t.Errorf("%d: no state, but something is told", i)
		}
	}
}

// P15.2: who is left.
func TestStuck(t *testing.T) {
	for i, r := range []struct {
		avail      []int
		held, asks [][]int
		want       []int
	}{
		{[]int{0}, rows([]int{1}, []int{1}), rows([]int{1}, []int{0}), nil},
		{[]int{0}, rows([]int{1}, []int{1}), rows([]int{1}, []int{1}), []int{0, 1}},
		{nil, nil, nil, nil},
		{nil, rows(nil, nil), rows(nil, nil), nil},
		{[]int{0}, rows([]int{0}), rows([]int{1}), []int{0}},
		{[]int{1, 0}, rows([]int{0, 1}, []int{1, 0}, []int{0, 0}), rows([]int{2, 0}, []int{0, 1}, []int{1, 0}), []int{0, 1}},
		// Who comes last is reduced first, and lets the others go.
		{[]int{0}, rows([]int{1}, []int{1}, []int{1}), rows([]int{2}, []int{1}, []int{0}), nil},
		// What is there may come to more than units may be.
		{[]int{1000}, rows([]int{1000}, []int{1000}), rows([]int{1000}, []int{1000}), nil},
		{[]int{0, 0}, rows([]int{1, 0}, []int{0, 0}, []int{0, 1}), rows([]int{0, 1}, []int{1, 1}, []int{1, 0}), []int{0, 1, 2}},
	} {
		if l := Stuck(r.avail, r.held, r.asks); !slices.Equal(l, r.want) {
			t.Errorf("%d: %v; want %v", i, l, r.want)
		}
	}
}

// P15.3: which sets are deadlocked.
func TestDeadlocked(t *testing.T) {
	avail, held := []int{0, 1}, rows([]int{1, 0}, []int{1, 0}, []int{0, 1}, []int{0, 0})
	asks := rows([]int{0, 2}, []int{0, 0}, []int{2, 0}, []int{0, 9})
	for _, r := range []struct {
		set []int
		is  bool
	}{
		{nil, false}, {[]int{}, false}, {[]int{0, 2}, true}, {[]int{0}, false}, {[]int{3}, true}, {[]int{2, 3}, false}, {[]int{1}, false}, {[]int{0, 1, 2}, false}, {[]int{-1}, false}, {[]int{4}, false},
		{[]int{3, 3}, false}, {[]int{3, 2}, false}, {[]int{api.Least}, false}, {[]int{api.Most}, false}, {[]int{2, 3, 4}, false},
	} {
		if Deadlocked(avail, held, asks, r.set) != r.is {
			t.Errorf("%v is %v", r.set, !r.is)
		}
	}
	if !Deadlocked([]int{0}, rows([]int{1}, []int{1}), rows([]int{1}, []int{1}), []int{0, 1}) || Deadlocked([]int{0}, rows([]int{1}, []int{1}), rows([]int{1}, []int{1}), []int{0}) {
		t.Error("two that wait for each other")
	}
	if Deadlocked([]int{1000}, rows([]int{1000}, []int{1000}, []int{0}), rows([]int{0}, []int{0}, []int{1000}), []int{2}) {
		t.Error("what is held outside comes to more than units may be")
	}
}

// next is the next number of a row that looks like chance, below n.
func next(seed *uint32, n int) int {
	*seed = *seed*1664525 + 1013904223
	return int(*seed>>8) % n
}

// P15.4: stuck are just those of some deadlocked set, tried one by one; and they are one.
func TestStuckAreDeadlocked(t *testing.T) {
	seed, stuck := uint32(7), 0
	for range 2000 {
		classes, n := 1+next(&seed, 2), 1+next(&seed, 4)
		avail, held, asks := make([]int, classes), make([][]int, n), make([][]int, n)
		for c := range classes {
			avail[c] = next(&seed, 2)
			for i := range n {
				held[i], asks[i] = append(held[i], next(&seed, 3)), append(asks[i], next(&seed, 4))
			}
		}
		in := map[int]bool{}
		for set := 1; set < 1<<n; set++ {
			var l []int
			for i := range n {
				if set>>i&1 == 1 {
					l = append(l, i)
				}
			}
			if Deadlocked(avail, held, asks, l) {
				for _, i := range l {
					in[i] = true
				}
			}
		}
		l := Stuck(avail, held, asks)
		for i := range n {
			if in[i] != slices.Contains(l, i) {
				t.Fatal(avail, held, asks, l, in)
			}
		}
		if !slices.IsSorted(l) || len(l) > 0 && !Deadlocked(avail, held, asks, l) {
			t.Fatal(avail, held, asks, l)
		}
		if len(l) > 0 {
			stuck++
		}
	}
	if stuck < 200 || stuck > 1800 {
		t.Error("too few of one kind:", stuck)
	}
}

// P15.2 (rule 3): what is handed in is left alone.
func TestMemory(t *testing.T) {
	avail, held, asks, set := []int{1}, rows([]int{1}, []int{0}), rows([]int{0}, []int{3}), []int{1}
	Stuck(avail, held, asks)
	Deadlocked(avail, held, asks, set)
	if avail[0] != 1 || held[0][0] != 1 || held[1][0] != 0 || asks[0][0] != 0 || asks[1][0] != 3 || set[0] != 1 {
		t.Error(avail, held, asks, set)
	}
}
