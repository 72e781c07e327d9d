package bank

import (
	"slices"
	"testing"

	"signalbox/api"
)

// rows are as many rows as there are arguments.
func rows(l ...[]int) [][]int {
	return l
}

// P14.1: what a state is.
func TestMay(t *testing.T) {
	many := func(n int) [][]int {
		l := make([][]int, n)
		for i := range l {
			l[i] = []int{0}
		}
		return l
	}
	for i, r := range []struct {
		avail       []int
		held, claim [][]int
		may         bool
	}{
		{nil, nil, nil, true},
		{[]int{}, rows(nil, []int{}), rows([]int{}, nil), true},
		{[]int{1}, rows([]int{1}), rows([]int{1}), true},
		{[]int{1}, rows([]int{2}), rows([]int{1}), false},
		{[]int{1}, rows([]int{1}), rows(), false},
		{[]int{1}, rows(), rows([]int{1}), false},
		{[]int{1}, rows([]int{1, 1}), rows([]int{1, 1}), false},
		{[]int{1}, rows(nil), rows(nil), false},
		{[]int{-1}, nil, nil, false},
		{[]int{1001}, nil, nil, false},
		{[]int{1000}, rows([]int{1000}), rows([]int{1000}), true},
		{[]int{0}, rows([]int{0}), rows([]int{1001}), false},
		{[]int{0}, rows([]int{-1}), rows([]int{1}), false},
		{make([]int, 6), nil, nil, true},
		{make([]int, 7), nil, nil, false},
		{[]int{0}, many(api.MaxLive), many(api.MaxLive), true},
		{[]int{0}, many(api.MaxLive + 1), many(api.MaxLive + 1), false},
	} {
		if May(r.avail, r.held, r.claim) != r.may {
			t.Errorf("%d: May is %v", i, !r.may)
		}
		if !r.may {
			order, ok := Order(r.avail, r.held, r.claim)
			if order != nil || ok || Safe(r.avail, r.held, r.claim) || Completes(r.avail, r.held, r.claim, make([]int, len(r.held))) {
				t.Errorf("%d: no state, but an order", i)
			}
		}
	}
}

// P14.2: the order that is told.
func TestOrder(t *testing.T) {
	for i, r := range []struct {
		avail       []int
		held, claim [][]int
		order       []int
		ok          bool
	}{
		{[]int{1}, rows([]int{1}, []int{1}), rows([]int{2}, []int{3}), []int{0, 1}, true},
		{nil, nil, nil, nil, true},
		{[]int{}, rows(nil, nil), rows(nil, nil), []int{0, 1}, true},
		{[]int{0}, rows([]int{1}, []int{1}), rows([]int{2}, []int{2}), nil, false},
		{[]int{0}, rows([]int{1}, []int{1}, []int{1}), rows([]int{3}, []int{2}, []int{1}), []int{2, 1, 0}, true},
		// The least one that can come next is looked for from the first one on, each time.
		{[]int{1}, rows([]int{0}, []int{1}, []int{0}), rows([]int{2}, []int{2}, []int{0}), []int{1, 0, 2}, true},
		{[]int{0, 1}, rows([]int{1, 0}, []int{0, 1}), rows([]int{1, 2}, []int{1, 1}), nil, false},
		// What is there may come to more than units may be.
		{[]int{1000}, rows([]int{1000}, []int{1000}), rows([]int{1000}, []int{1000}), []int{0, 1}, true},
		{[]int{600}, rows([]int{600}, []int{600}), rows([]int{1000}, []int{1000}), []int{0, 1}, true},
	} {
		order, ok := Order(r.avail, r.held, r.claim)
		if !slices.Equal(order, r.order) || ok != r.ok || Safe(r.avail, r.held, r.claim) != r.ok {
			t.Errorf("%d: %v, %v", i, order, ok)
		}
		if ok && !Completes(r.avail, r.held, r.claim, order) {
			t.Errorf("%d: does not complete", i)
		}
	}
}

// P14.2: which orders complete.
func TestCompletes(t *testing.T) {
	avail, held, claim := []int{1}, rows([]int{1}, []int{1}, []int{0}), rows([]int{2}, []int{3}, []int{1})
	for _, r := range []struct {
		order []int
		is    bool
	}{
		{[]int{0, 1, 2}, true}, {[]int{2, 0, 1}, true}, {[]int{0, 2, 1}, true}, {[]int{1, 0, 2}, false}, {[]int{2, 1, 0}, false}, {[]int{0, 1}, false}, {[]int{0, 1, 1}, false}, {[]int{0, 0, 1, 2}, false},
		{[]int{0, 1, 3}, false}, {[]int{0, 1, -1}, false}, {nil, false}, {[]int{0, 1, 2, 2}, false}, {[]int{api.Least, api.Most, 0}, false},
	} {
		if Completes(avail, held, claim, r.order) != r.is {
			t.Errorf("%v is %v", r.order, !r.is)
		}
	}
	if !Completes([]int{3}, nil, nil, nil) {
		t.Error("nobody does not complete")
	}
}

// next is the next number of a row that looks like chance, below n.
func next(seed *uint32, n int) int {
	*seed = *seed*1664525 + 1013904223
	return int(*seed>>8) % n
}

// some is some order completes, tried one by one.
func some(avail []int, held, claim [][]int, order []int) bool {
	if len(order) == len(held) {
		return Completes(avail, held, claim, order)
	}
	for i := range held {
		if !slices.Contains(order, i) && some(avail, held, claim, append(slices.Clone(order), i)) {
			return true
		}
	}
	return false
}

// P14.3: safe just if some order completes; one more that holds nothing turns nothing.
func TestSafeIfSomeOrder(t *testing.T) {
	seed, safe := uint32(1), 0
	for range 3000 {
		classes, n := 1+next(&seed, 2), 1+next(&seed, 4)
		avail, total := make([]int, classes), make([]int, classes)
		held, claim := make([][]int, n), make([][]int, n)
		for c := range classes {
			avail[c] = next(&seed, 3)
			total[c] = avail[c]
		}
		for i := range n {
			for c := range classes {
				h := next(&seed, 3)
				held[i] = append(held[i], h)
				claim[i] = append(claim[i], h+next(&seed, 4))
				total[c] += h
			}
		}
		is := Safe(avail, held, claim)
		if is != some(avail, held, claim, nil) {
			t.Fatal("Safe is", is, "of", avail, held, claim)
		}
		if is {
			safe++
		}
		more := slices.Clone(total)
		more[0] = next(&seed, total[0]+1)
		if Safe(avail, append(held, make([]int, classes)), append(claim, more)) != is {
			t.Fatal("one more turns", avail, held, claim, more)
		}
	}
	if safe < 300 || safe > 2700 {
		t.Error("too few of one kind:", safe)
	}
}

// P14.2 (rule 3): what is handed in is left alone.
func TestMemory(t *testing.T) {
	avail, held, claim, order := []int{1}, rows([]int{1}, []int{1}), rows([]int{2}, []int{3}), []int{0, 1}
	Completes(avail, held, claim, order)
	told, _ := Order(avail, held, claim)
	told[0] = 9
	if avail[0] != 1 || held[0][0] != 1 || held[1][0] != 1 || claim[0][0] != 2 || claim[1][0] != 3 || !slices.Equal(order, []int{0, 1}) {
		t.Error(avail, held, claim, order)
	}
}
