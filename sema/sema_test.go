package sema

import (
	"slices"
	"testing"

	"signalbox/api"
)

func made(t *testing.T, value int) *Sema {
	t.Helper()
	s, c := New(value)
	if c != api.OK || s == nil {
		t.Fatalf("New(%d): %d", value, c)
	}
	return s
}

// fits: P11.3, and what is told of s.
func fits(t *testing.T, s *Sema, value, ps, vs int, waits ...int) {
	t.Helper()
	if s.Value() != value || s.Ps() != ps || s.Vs() != vs || !slices.Equal(s.Waits(), waits) {
		t.Errorf("value %d, %d P, %d V, waits %v; want %d, %d, %d, %v", s.Value(), s.Ps(), s.Vs(), s.Waits(), value, ps, vs, waits)
	}
	if s.Value() != s.First()+s.Vs()-s.Ps() || s.Value() < 0 || len(s.Waits()) > 0 && s.Value() != 0 {
		t.Errorf("value %d of %d, %d P, %d V, waits %v", s.Value(), s.First(), s.Ps(), s.Vs(), s.Waits())
	}
}

// P11.1: what a semaphore may be at first.
func TestNew(t *testing.T) {
	for _, value := range []int{api.Least, -1, api.MaxUnits + 1, api.Most} {
		if s, c := New(value); s != nil || c != api.ErrArg {
			t.Errorf("New(%d): %d", value, c)
		}
	}
	for _, value := range []int{0, 1, api.MaxUnits} {
		s := made(t, value)
		fits(t, s, value, 0, 0)
		if s.First() != value {
			t.Error(s.First())
		}
	}
}

// P11.1, P11.2, P11.3: the document's example, and who waits is woken in order.
func TestPAndV(t *testing.T) {
	s := made(t, 1)
	if !s.P(4) || s.P(5) || s.P(9) || s.P(2) || s.P(5) {
		t.Error("P")
	}
	fits(t, s, 0, 1, 0, 5, 9, 2, 5)
	for i, want := range []int{5, 9, 2, 5} {
		if pid := s.V(); pid != want {
			t.Errorf("V: %d; want %d", pid, want)
		}
		fits(t, s, 0, 2+i, 1+i, []int{5, 9, 2, 5}[i+1:]...)
	}
	for i := range 3 {
		if pid := s.V(); pid != 0 {
			t.Errorf("V of nobody: %d", pid)
		}
		fits(t, s, 1+i, 5, 5+i)
	}
	if !s.P(7) || !s.P(7) || !s.P(7) || s.P(7) {
		t.Error("P behind V")
	}
	fits(t, s, 0, 8, 7, 7)
	if s.First() != 1 {
		t.Error(s.First())
	}
}

// P11.1: it may grow beyond what it may be at first.
func TestGrows(t *testing.T) {
	s := made(t, api.MaxUnits)
	if s.V() != 0 {
		t.Error("V")
	}
	fits(t, s, api.MaxUnits+1, 0, 1)
}

// P11.1: nobody does nothing.
func TestNobody(t *testing.T) {
	s := made(t, 1)
	for _, pid := range []int{api.Least, -1, 0} {
		if s.P(pid) {
			t.Errorf("P(%d) is true", pid)
		}
		fits(t, s, 1, 0, 0)
	}
	s.P(1)
	s.P(0)
	fits(t, s, 0, 1, 0)
}

// P11.2 (rules 3 and 9): new memory; a nil Sema.
func TestMemoryAndNil(t *testing.T) {
	s := made(t, 0)
	s.P(3)
	s.P(4)
	s.Waits()[0] = 9
	l := s.Waits()
	s.V()
	s.P(5)
	if !slices.Equal(l, []int{3, 4}) || !slices.Equal(s.Waits(), []int{4, 5}) {
		t.Error(l, s.Waits())
	}
	var none *Sema
	if none.P(1) || none.V() != 0 || none.Value() != 0 || none.First() != 0 || none.Waits() != nil || none.Ps() != 0 || none.Vs() != 0 {
		t.Error("a nil Sema tells something")
	}
}
