package stack

import (
	"slices"
	"testing"

	"signalbox/api"
	"signalbox/store"
)

func words(t *testing.T, n int) *store.Store {
	t.Helper()
	s, c := store.New(n)
	if c != api.OK {
		t.Fatal("store:", c)
	}
	return s
}

func made(t *testing.T, size int) *Stack {
	t.Helper()
	k := New(words(t, size), 0, size)
	if k == nil {
		t.Fatal("no stack of", size)
	}
	return k
}

// P4.1: which words may be a stack's.
func TestNew(t *testing.T) {
	s := words(t, 10)
	for _, r := range [][2]int{{-1, 2}, {2, -1}, {9, 2}, {10, 1}, {0, 11}, {11, 0}, {11, 1}, {12, 0}, {api.Most, 0}, {api.Most, 1}, {1, api.Most}, {api.Most, api.Most}, {api.Least, api.Least}, {2, api.Least}} {
		if New(s, r[0], r[1]) != nil {
			t.Errorf("New%v is a stack", r)
		}
	}
	// No words at all begin at a word too, or at the store's end.
	for _, r := range [][2]int{{0, 10}, {9, 1}, {10, 0}, {9, 0}, {0, 0}, {4, 3}} {
		if k := New(s, r[0], r[1]); k == nil || k.Len() != 0 || k.Frames() != 0 || k.Operands() != 0 {
			t.Errorf("New%v is no empty stack", r)
		}
	}
	if New(nil, 0, 0) != nil {
		t.Error("a stack of no store")
	}
	none := words(t, 0)
	if New(none, 0, 0) == nil || New(none, 1, 0) != nil || New(none, 0, 1) != nil {
		t.Error("a store of no words has a stack of no words, at 0 alone")
	}
}

// P4.1: operands are pushed, looked at, and popped.
func TestOperands(t *testing.T) {
	k := made(t, 3)
	if x, c := k.Pop(); x != 0 || c != api.ErrState {
		t.Error("Pop of none:", x, c)
	}
	for i := range 3 {
		if c := k.Push(10 + i); c != api.OK {
			t.Error("Push:", c)
		}
	}
	if c := k.Push(99); c != api.TStack || k.Len() != 3 {
		t.Error("Push beyond the end:", c, k.Len())
	}
	for i, want := range []int{12, 11, 10} {
		if x, ok := k.Top(i); x != want || !ok {
			t.Errorf("Top(%d): %d, %v", i, x, ok)
		}
	}
	for _, i := range []int{api.Least, -1, 3, api.Most} {
		if x, ok := k.Top(i); x != 0 || ok {
			t.Errorf("Top(%d): %d, %v", i, x, ok)
		}
	}
	for _, want := range []int{12, 11, 10} {
		if x, c := k.Pop(); x != want || c != api.OK {
			t.Error("Pop:", x, c)
		}
	}
	if k.Len() != 0 {
		t.Error("Len:", k.Len())
	}
}

// P4.2: the document's example.
func TestExample(t *testing.T) {
	k := made(t, 4)
	k.Push(7)
	if c := k.Call(9, 1, 2); c != api.OK || k.Len() != 4 {
		t.Error(c, k.Len())
	}
	if x, ok := k.Local(0); x != 7 || !ok {
		t.Error(x, ok)
	}
	if back, ok := k.Ret(); back != 9 || !ok || k.Len() != 0 {
		t.Error(back, ok, k.Len())
	}
}

// P4.2: what Call refuses, in which order, and that it changes nothing then.
func TestCallRefuses(t *testing.T) {
	k := made(t, 6)
	k.Push(1)
	for _, r := range []struct {
		params, locals int
		want           api.Code
	}{
		{-1, 2, api.ErrArg}, {3, 2, api.ErrArg}, {api.Least, api.Least, api.ErrArg}, {2, 2, api.ErrState}, {2, 99, api.ErrState}, {1, 5, api.TStack},
		{0, 4, api.TStack}, {0, api.Most, api.TStack}, {1, api.Most, api.TStack}, {api.Most, api.Most, api.ErrState},
	} {
		if c := k.Call(3, r.params, r.locals); c != r.want || k.Len() != 1 || k.Frames() != 0 {
			t.Errorf("Call of %d and %d: %d; Len %d", r.params, r.locals, c, k.Len())
		}
	}
	if c := k.Call(3, 1, 4); c != api.OK || k.Len() != 6 || k.Operands() != 0 {
		t.Error("Call that just fits:", c, k.Len())
	}
	if c := k.Call(3, 0, 0); c != api.TStack || k.Frames() != 1 {
		t.Error("Call without room:", c, k.Frames())
	}
}

// P4.2, P4.3: locals of frames within frames; the numbers of frames, operands, words.
func TestFrames(t *testing.T) {
	k := made(t, 40)
	k.Push(1)
	k.Push(2)
	k.Push(3)
	k.Call(-5, 2, 3)
	if k.Frames() != 1 || k.Operands() != 0 || k.Len() != 1+3+2 {
		t.Error(k.Frames(), k.Operands(), k.Len())
	}
	locals(t, k, 2, 3, 0)
	if !k.SetLocal(2, 8) || k.SetLocal(3, 1) || k.SetLocal(-1, 1) {
		t.Error("SetLocal")
	}
	k.Push(20)
	k.Push(21)
	k.Call(api.Least, 1, 1)
	locals(t, k, 21)
	if _, c := k.Pop(); c != api.ErrState {
		t.Error("a frame's operands are another one's:", c)
	}
	k.Push(30)
	k.Call(api.Most, 0, 2)
	locals(t, k, 0, 0)
	if k.Frames() != 3 || k.Len() != 1+(3+2)+1+(1+2)+1+(2+2) {
		t.Error(k.Frames(), k.Len())
	}
	for i, want := range []int{api.Most, api.Least, -5} {
		if back, ok := k.Ret(); back != want || !ok {
			t.Error("Ret", i, back, ok)
		}
		switch i {
		case 0:
			locals(t, k, 21)
			if x, _ := k.Top(0); x != 30 || k.Operands() != 1 {
				t.Error("operands behind Ret:", x, k.Operands())
			}
		case 1:
			locals(t, k, 2, 3, 8)
			if x, _ := k.Top(0); x != 20 || k.Operands() != 1 {
				t.Error("operands behind Ret:", x, k.Operands())
			}
		}
	}
	if x, ok := k.Top(0); x != 1 || !ok || k.Operands() != 1 || k.Frames() != 0 || k.Len() != 1 {
		t.Error("behind all:", x, ok, k.Operands())
	}
	if back, ok := k.Ret(); back != 0 || ok {
		t.Error("Ret of none:", back, ok)
	}
}

// locals: the innermost frame has just these.
func locals(t *testing.T, k *Stack, want ...int) {
	t.Helper()
	for i, w := range want {
		if x, ok := k.Local(i); x != w || !ok {
			t.Errorf("Local(%d): %d, %v; want %d", i, x, ok, w)
		}
	}
	for _, i := range []int{-1, len(want), api.Least, api.Most} {
		if x, ok := k.Local(i); x != 0 || ok {
			t.Errorf("Local(%d): %d, %v", i, x, ok)
		}
	}
}

// P4.2: a frame's other locals are 0, whatever stood in the words.
func TestLocalsAreCleared(t *testing.T) {
	k := made(t, 8)
	for range 8 {
		k.Push(77)
	}
	for range 8 {
		k.Pop()
	}
	k.Call(0, 0, 6)
	locals(t, k, 0, 0, 0, 0, 0, 0)
}

// P4.4: behind Ret all is as it was ahead of Call, but for the operands that it took.
func TestRetRestores(t *testing.T) {
	for params := range 4 {
		for others := range 4 {
			k := made(t, 60)
			for i := range 3 {
				k.Push(i)
			}
			k.Call(1, 1, 2)
			for i := range 5 {
				k.Push(50 + i)
			}
			k.Call(7, params, params+others)
			for i := range params + others {
				k.SetLocal(i, -1)
			}
			k.Push(-2)
			k.Ret()
			if k.Operands() != 5-params || k.Frames() != 1 {
				t.Error(params, others, k.Operands(), k.Frames())
			}
			for i := range 5 - params {
				if x, _ := k.Top(i); x != 50+4-params-i {
					t.Error(params, others, i, x)
				}
			}
			locals(t, k, 2, 0)
		}
	}
}

// P4.1: a stack keeps to its words.
func TestKeepsToItsWords(t *testing.T) {
	s := words(t, 12)
	for i := range 12 {
		s.Put(i, -9)
	}
	k := New(s, 4, 4)
	k.Push(1)
	k.Call(2, 1, 2)
	k.Push(3)
	k.Ret()
	for range 5 {
		k.Push(4)
	}
	k = New(s, 4, 4)
	k.Push(1)
	k.Push(1)
	k.Call(2, 2, 2)
	w := s.Words()
	if !slices.Equal(w[:4], []int{-9, -9, -9, -9}) || !slices.Equal(w[8:], []int{-9, -9, -9, -9}) {
		t.Error(w)
	}
}

// P4.1 (rule 1): whoever else writes to the words makes no panic.
func TestWordsOfOthers(t *testing.T) {
	for _, x := range []int{api.Least, -1, 0, 5, api.Most} {
		s := words(t, 20)
		k := New(s, 0, 20)
		k.Push(1)
		k.Call(2, 1, 2)
		k.Call(2, 0, 2)
		for i := range 20 {
			s.Put(i, x)
		}
		for range 3 {
			k.Ret()
			k.Local(0)
			k.SetLocal(1, 4)
			k.Top(0)
			k.Pop()
			k.Push(3)
			k.Call(1, 0, 3)
			k.Ret()
		}
	}
}

// P4.3: a nil Stack.
func TestNil(t *testing.T) {
	var k *Stack
	x, c := k.Pop()
	back, ok := k.Ret()
	top, is := k.Top(0)
	local, has := k.Local(0)
	if k.Push(1) != api.ErrState || x != 0 || c != api.ErrState || top != 0 || is || k.Call(0, 0, 0) != api.ErrState || k.Call(0, 2, 1) != api.ErrState || back != 0 || ok {
		t.Error("a nil Stack tells something")
	}
	if local != 0 || has || k.SetLocal(0, 1) || k.Frames() != 0 || k.Operands() != 0 || k.Len() != 0 {
		t.Error("a nil Stack tells something")
	}
}
