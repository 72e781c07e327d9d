package pick

import (
	"testing"

	"signalbox/api"
)

// P9.1: the element at pick modulo how many there are.
func TestOf(t *testing.T) {
	ready := []int{3, 5, 8}
	for _, r := range [][2]int{{0, 3}, {1, 5}, {2, 8}, {3, 3}, {7, 5}, {-1, 8}, {-2, 5}, {-3, 3}, {-4, 8}, {api.Most, 5}, {api.Least, 5}} {
		if pid, ok := Of(ready, r[0]); pid != r[1] || !ok {
			t.Errorf("Of(%d): %d, %v; want %d", r[0], pid, ok, r[1])
		}
	}
	for _, pick := range []int{0, 1, -1, api.Least} {
		if pid, ok := Of(nil, pick); pid != 0 || ok {
			t.Errorf("Of none: %d, %v", pid, ok)
		}
		if pid, ok := Of([]int{7}, pick); pid != 7 || !ok {
			t.Errorf("Of one: %d, %v", pid, ok)
		}
	}
	if pid, ok := Of([]int{9, 2, 9}, 2); pid != 9 || !ok {
		t.Error("Of a list that does not rise:", pid, ok)
	}
}

// P9.1: the first place at which pid stands.
func TestPlace(t *testing.T) {
	for _, r := range []struct {
		ready   []int
		pid, at int
		ok      bool
	}{
		{[]int{3, 5, 8}, 3, 0, true}, {[]int{3, 5, 8}, 8, 2, true}, {[]int{3, 5, 8}, 4, 0, false}, {nil, 0, 0, false}, {[]int{1, 0, 0}, 0, 1, true}, {[]int{5, -5, 5}, 5, 0, true},
	} {
		if at, ok := Place(r.ready, r.pid); at != r.at || ok != r.ok {
			t.Errorf("Place(%v, %d): %d, %v", r.ready, r.pid, at, ok)
		}
	}
}

// P9.1: whose turn it is.
func TestTurn(t *testing.T) {
	for _, r := range []struct {
		ready    []int
		last, at int
		ok       bool
	}{
		{[]int{3, 5, 8}, 0, 0, true}, {[]int{3, 5, 8}, 3, 1, true}, {[]int{3, 5, 8}, 4, 1, true}, {[]int{3, 5, 8}, 7, 2, true}, {[]int{3, 5, 8}, 8, 0, true}, {[]int{3, 5, 8}, api.Most, 0, true},
		{[]int{8, 3, 5, 3}, 9, 1, true}, {[]int{8, 5, 3, 5}, 3, 1, true}, {[]int{8, 5, 3, 5}, 5, 0, true}, {[]int{7, 7}, 7, 0, true}, {[]int{7, 7}, 6, 0, true}, {nil, 0, 0, false}, {[]int{}, api.Least, 0, false},
		{[]int{api.Most, api.Least}, api.Least, 0, true}, {[]int{api.Most, api.Least}, api.Most, 1, true}, {[]int{4}, 4, 0, true},
	} {
		if at, ok := Turn(r.ready, r.last); at != r.at || ok != r.ok {
			t.Errorf("Turn(%v, %d): %d, %v", r.ready, r.last, at, ok)
		}
	}
}

// P9.2: whoever is ready can be picked, by its place and by no other number below how many there are.
func TestEachCanBePicked(t *testing.T) {
	ready := []int{2, 3, 5, 7, 11}
	for _, pid := range ready {
		place, _ := Place(ready, pid)
		for pick := range len(ready) {
			if got, _ := Of(ready, pick); (got == pid) != (pick == place) {
				t.Errorf("%d is picked by %d", got, pick)
			}
		}
	}
}
