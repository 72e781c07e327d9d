package segs

import (
	"slices"
	"testing"

	"signalbox/api"
)

func made(t *testing.T, from, to, size int) *Segs {
	t.Helper()
	s, c := New(from, to, size)
	if c != api.OK || s == nil {
		t.Fatalf("New(%d, %d, %d): %v, %d", from, to, size, s, c)
	}
	return s
}

// P3.1: what New refuses.
func TestNewRefuses(t *testing.T) {
	for _, r := range [][3]int{
		{-1, 10, 3}, {api.Least, 10, 3}, {11, 10, 3}, {0, api.MaxStore + 1, 3}, {0, api.Most, 3}, {api.Most, api.Most, 1},
		{0, 10, 0}, {0, 10, -1}, {0, 10, api.MaxStore + 1}, {0, 10, api.Most}, {0, -1, 1}, {0, 10, api.Least},
	} {
		if s, c := New(r[0], r[1], r[2]); s != nil || c != api.ErrArg {
			t.Errorf("New%v: %v, %d", r, s, c)
		}
	}
}

// P3.1: how many segments there are, and where they lie.
func TestPlaces(t *testing.T) {
	for _, r := range []struct {
		from, to, size int
		firsts         []int
	}{
		{3, 10, 3, []int{3, 6}},
		{3, 9, 3, []int{3, 6}},
		{3, 8, 3, []int{3}},
		{0, 0, 1, nil},
		{5, 5, 1, nil},
		{0, 2, 3, nil},
		{api.MaxStore, api.MaxStore, api.MaxStore, nil},
		{0, api.MaxStore, api.MaxStore, []int{0}},
		{api.MaxStore - 2, api.MaxStore, 1, []int{api.MaxStore - 2, api.MaxStore - 1}},
	} {
		s := made(t, r.from, r.to, r.size)
		if s.Free() != len(r.firsts) || s.Size() != r.size || len(s.Taken()) != 0 {
			t.Errorf("%v: %d free, size %d, taken %v", r, s.Free(), s.Size(), s.Taken())
		}
		for _, want := range r.firsts {
			if at, ok := s.Take(); at != want || !ok {
				t.Errorf("%v: Take: %d, %v; want %d", r, at, ok, want)
			}
		}
		if at, ok := s.Take(); at != 0 || ok {
			t.Errorf("%v: Take of none: %d, %v", r, at, ok)
		}
		if !slices.Equal(s.Taken(), r.firsts) || s.Free() != 0 {
			t.Errorf("%v: taken %v, %d free", r, s.Taken(), s.Free())
		}
	}
}

// P3.1, P3.2: the least free one is taken; what is given back can be taken again; none overlap.
func TestTakeAndGive(t *testing.T) {
	s := made(t, 2, 22, 4)
	for range 4 {
		s.Take()
	}
	for _, at := range []int{api.Least, -1, 0, 1, 3, 5, 18, 19, 22, api.Most} {
		if s.Give(at) {
			t.Errorf("Give(%d) is true", at)
		}
	}
	if !s.Give(10) || !s.Give(2) || s.Give(10) || s.Free() != 3 || !slices.Equal(s.Taken(), []int{6, 14}) {
		t.Error("Give:", s.Free(), s.Taken())
	}
	for _, want := range []int{2, 10, 18} {
		if at, ok := s.Take(); at != want || !ok {
			t.Errorf("Take: %d, %v; want %d", at, ok, want)
		}
	}
	l := s.Taken()
	for i := range l[1:] {
		if l[i+1]-l[i] < s.Size() {
			t.Error("two have a word in common:", l)
		}
	}
}

// P3.1: a nil Segs has nothing; what is told is new memory.
func TestNilAndMemory(t *testing.T) {
	var none *Segs
	at, ok := none.Take()
	if at != 0 || ok || none.Give(0) || none.Free() != 0 || len(none.Taken()) != 0 || none.Size() != 0 {
		t.Error("a nil Segs tells something")
	}
	s := made(t, 0, 4, 2)
	s.Take()
	s.Taken()[0] = 9
	if !slices.Equal(s.Taken(), []int{0}) {
		t.Error("Taken hands out its own memory")
	}
}
