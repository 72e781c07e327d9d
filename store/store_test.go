package store

import (
	"slices"
	"testing"

	"signalbox/api"
)

func made(t *testing.T, n int) *Store {
	t.Helper()
	s, c := New(n)
	if c != api.OK || s == nil {
		t.Fatalf("New(%d): %v, %d", n, s, c)
	}
	return s
}

// P2.1: how many words there may be, all 0 at first.
func TestNew(t *testing.T) {
	for _, n := range []int{api.Least, -1, api.MaxStore + 1, api.Most} {
		if s, c := New(n); s != nil || c != api.ErrArg {
			t.Errorf("New(%d): %v, %d", n, s, c)
		}
	}
	for _, n := range []int{0, 1, 3, api.MaxStore} {
		s := made(t, n)
		if s.Len() != n || len(s.Words()) != n || slices.ContainsFunc(s.Words(), func(x int) bool { return x != 0 }) {
			t.Errorf("New(%d): %d words, %v", n, s.Len(), s.Words())
		}
	}
}

// P2.1, P2.2: a word is what was put there last; places outside are refused.
func TestPutAndGet(t *testing.T) {
	s := made(t, 3)
	for _, at := range []int{api.Least, -1, 3, api.Most} {
		if x, ok := s.Get(at); x != 0 || ok {
			t.Errorf("Get(%d): %d, %v", at, x, ok)
		}
		if s.Put(at, 7) {
			t.Errorf("Put(%d) is true", at)
		}
	}
	if !s.Put(0, 5) || !s.Put(2, api.Least) || !s.Put(0, 6) {
		t.Error("Put of a word is false")
	}
	if !slices.Equal(s.Words(), []int{6, 0, api.Least}) {
		t.Error(s.Words())
	}
	for at, want := range []int{6, 0, api.Least} {
		if x, ok := s.Get(at); x != want || !ok {
			t.Errorf("Get(%d): %d, %v", at, x, ok)
		}
	}
}

// P2.1: what Clear may clear, and that it clears nothing else.
func TestClear(t *testing.T) {
	s := made(t, 4)
	for at := range 4 {
		s.Put(at, at+1)
	}
	for _, r := range [][2]int{{-1, 1}, {0, -1}, {0, 5}, {4, 1}, {5, 0}, {-1, 0}, {3, 2}, {1, api.Most}, {api.Most, api.Most}, {api.Least, 0}, {2, api.Least}} {
		if s.Clear(r[0], r[1]) {
			t.Errorf("Clear(%d, %d) is true", r[0], r[1])
		}
	}
	if !s.Clear(0, 0) || !s.Clear(4, 0) || !slices.Equal(s.Words(), []int{1, 2, 3, 4}) {
		t.Error("Clear of none:", s.Words())
	}
	if !s.Clear(1, 2) || !slices.Equal(s.Words(), []int{1, 0, 0, 4}) {
		t.Error("Clear(1, 2):", s.Words())
	}
	if !s.Clear(0, 4) || !slices.Equal(s.Words(), []int{0, 0, 0, 0}) {
		t.Error("Clear(0, 4):", s.Words())
	}
}

// P2.1: what is told is new memory; a nil Store has nothing.
func TestWordsAndNil(t *testing.T) {
	s := made(t, 2)
	s.Words()[0] = 9
	if x, _ := s.Get(0); x != 0 {
		t.Error("Words hands out the store itself")
	}
	var none *Store
	x, ok := none.Get(0)
	if none.Len() != 0 || x != 0 || ok || none.Put(0, 1) || none.Clear(0, 0) || len(none.Words()) != 0 {
		t.Error("a nil Store tells something")
	}
}
