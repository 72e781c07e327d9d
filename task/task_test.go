package task

import (
	"slices"
	"testing"

	"signalbox/api"
	"signalbox/stack"
	"signalbox/store"
	"signalbox/verify"
)

// bench is a task with its store; its variables are 0 to 3 (an array of 3, and one that is none), its stack lies behind.
type bench struct {
	*Task
	s *store.Store
	p api.Program
}

// made is a bench whose stack has size words, and a frame of no locals.
func made(t *testing.T, size int, l ...api.Instr) *bench {
	t.Helper()
	s, _ := store.New(4 + size)
	k := stack.New(s, 4, size)
	if c := k.Call(-1, 0, 0); c != api.OK {
		t.Fatal("no room for a frame:", c)
	}
	b := &bench{Task: New(k, 0), s: s, p: api.Program{
		Code:    append(slices.Clone(l), api.Instr{Op: api.Ret}, api.Instr{Op: api.Ret}),
		Procs:   []api.Entry{{}, {At: len(l) + 1, Params: 2, Locals: 3}},
		Vars:    []api.Cell{{Base: 0, Size: 3}, {Base: 3}},
		Regions: 1,
		Semas:   []int{0},
		Totals:  []int{1},
		Vectors: [][]int{{0}},
		Forks:   []api.Spawn{{Proc: 1}},
	}}
	return b
}

// run does so many instructions, each of which must be done.
func (b *bench) run(t *testing.T, n int) {
	t.Helper()
	for i := range n {
		if ok, c := b.Do(b.p, b.s); !ok || c != api.OK {
			t.Fatalf("instruction %d at %d: %v, %d", i, b.At(), ok, c)
		}
	}
}

// operands are those of b, from the first one on.
func (b *bench) operands() []int {
	var l []int
	for i := b.Stack().Operands() - 1; i >= 0; i-- {
		x, _ := b.Stack().Top(i)
		l = append(l, x)
	}
	return l
}

// fits: where b stands, and its operands.
func (b *bench) fits(t *testing.T, at int, operands ...int) {
	t.Helper()
	if b.At() != at || !slices.Equal(b.operands(), operands) {
		t.Errorf("at %d, %v; want %d, %v", b.At(), b.operands(), at, operands)
	}
}

func push(x int) api.Instr {
	return api.Instr{Op: api.Push, A: x}
}

// P19.1: a task's stack and place; a nil Task.
func TestNew(t *testing.T) {
	if New(nil, 3) != nil {
		t.Error("a task of no stack")
	}
	s, _ := store.New(4)
	k := stack.New(s, 0, 4)
	task := New(k, -7)
	if task.At() != -7 || task.Stack() != k {
		t.Error(task.At())
	}
	task.Goto(api.Most)
	if task.At() != api.Most {
		t.Error(task.At())
	}
	var none *Task
	none.Goto(4)
	if ok, c := none.Do(api.Program{}, s); ok || c != api.OK || none.At() != 0 || none.Stack() != nil {
		t.Error("a nil Task tells something")
	}
}

// P19.2: nop, push, arithmetic: the right operand lies above.
func TestCompute(t *testing.T) {
	b := made(t, 9, push(2), push(3), api.Instr{Op: api.Sub})
	b.run(t, 3)
	b.fits(t, 3, -1)
	for op, want := range map[int]int{api.Add: 9, api.Sub: 5, api.Mul: 14, api.Div: 3, api.Mod: 1, api.Eq: 0, api.Ne: 1, api.Lt: 0, api.Le: 0, api.Gt: 1, api.Ge: 1, api.And: 1, api.Or: 1} {
		b := made(t, 9, api.Instr{Op: api.Nop}, push(5), push(7), push(2), api.Instr{Op: op})
		b.run(t, 5)
		b.fits(t, 5, 5, want)
	}
	for op, want := range map[int]int{api.Neg: -7, api.Not: 0} {
		b := made(t, 9, push(5), push(7), api.Instr{Op: op})
		b.run(t, 3)
		b.fits(t, 3, 5, want)
	}
}

// P19.2: variables and their elements.
func TestVariables(t *testing.T) {
	b := made(t, 9, push(7), api.Instr{Op: api.Store, A: 1}, push(2), push(9), api.Instr{Op: api.StoreAt, A: 0}, push(2), api.Instr{Op: api.LoadAt, A: 0}, api.Instr{Op: api.Load, A: 1}, api.Instr{Op: api.Load, A: 0})
	b.s.Put(0, 44)
	b.run(t, 9)
	b.fits(t, 9, 9, 7, 44)
	if w := b.s.Words()[:4]; !slices.Equal(w, []int{44, 0, 9, 7}) {
		t.Error(w)
	}
}

// P19.2: indices outside are trapped; of a variable that is no array all are.
func TestIndices(t *testing.T) {
	for _, r := range []struct{ v, index int }{{0, -1}, {0, 3}, {0, api.Least}, {0, api.Most}, {1, 0}, {1, 1}} {
		b := made(t, 9, push(r.index), api.Instr{Op: api.LoadAt, A: r.v})
		b.run(t, 1)
		if ok, c := b.Do(b.p, b.s); ok || c != api.TIndex {
			t.Errorf("loadat %v: %v, %d", r, ok, c)
		}
		b = made(t, 9, push(r.index), push(5), api.Instr{Op: api.StoreAt, A: r.v})
		b.run(t, 2)
		if ok, c := b.Do(b.p, b.s); ok || c != api.TIndex || !slices.Equal(b.s.Words()[:4], []int{0, 0, 0, 0}) {
			t.Errorf("storeat %v: %v, %d", r, ok, c)
		}
	}
}

// P19.2: jumps.
func TestJumps(t *testing.T) {
	b := made(t, 9, api.Instr{Op: api.Jump, A: 2}, push(1), push(0), api.Instr{Op: api.JumpZero, A: 1})
	b.run(t, 1)
	b.fits(t, 2)
	b.run(t, 2)
	b.fits(t, 1)
	for _, x := range []int{1, -1, api.Least} {
		b := made(t, 9, push(x), api.Instr{Op: api.JumpZero, A: 0})
		b.run(t, 2)
		b.fits(t, 2)
	}
}

// P19.2: calls, locals, returns.
func TestCalls(t *testing.T) {
	b := made(t, 20, push(5), push(6), push(7), api.Instr{Op: api.Call, A: 1})
	b.p.Code = append(b.p.Code[:5], api.Instr{Op: api.Local, A: 0}, api.Instr{Op: api.Local, A: 1}, api.Instr{Op: api.SetLocal, A: 2}, api.Instr{Op: api.Local, A: 2}, api.Instr{Op: api.Ret})
	b.run(t, 4)
	b.fits(t, 5)
	if b.Stack().Frames() != 2 {
		t.Error(b.Stack().Frames())
	}
	b.run(t, 4)
	b.fits(t, 9, 6, 7)
	b.run(t, 1)
	b.fits(t, 4, 5)
	if ok, c := b.Do(b.p, b.s); ok || c != api.OK || b.At() != 4 || b.Stack().Frames() != 1 {
		t.Error("the last frame's ret is done here:", ok, c)
	}
}

// P19.2: what others do is not done here, and nothing is turned.
func TestOthers(t *testing.T) {
	for _, i := range []api.Instr{
		{Op: api.Ret}, {Op: api.Fork}, {Op: api.Join}, {Op: api.P}, {Op: api.V}, {Op: api.Enter}, {Op: api.Await, B: 1}, {Op: api.Leave}, {Op: api.Request}, {Op: api.Release}, {Op: api.Read}, {Op: api.Write},
	} {
		b := made(t, 9, push(4), i)
		b.run(t, 1)
		if ok, c := b.Do(b.p, b.s); ok || c != api.OK {
			t.Errorf("%v: %v, %d", i, ok, c)
		}
		b.fits(t, 1, 4)
	}
}

// P19.2: codes of arithmetic; no room; what was popped ahead of a push has made some.
func TestCodes(t *testing.T) {
	for _, r := range []struct {
		size int
		want api.Code
		l    []api.Instr
	}{
		{9, api.TOver, []api.Instr{push(api.Most), push(1), {Op: api.Add}}},
		{9, api.TOver, []api.Instr{push(api.Least), {Op: api.Neg}}},
		{9, api.TZero, []api.Instr{push(1), push(0), {Op: api.Div}}},
		{9, api.TZero, []api.Instr{push(1), push(0), {Op: api.Mod}}},
		{3, api.TStack, []api.Instr{push(1), push(2)}},
		{3, api.TStack, []api.Instr{push(1), {Op: api.Load, A: 0}}},
		{5, api.TStack, []api.Instr{push(1), push(2), {Op: api.Call, A: 1}}},
	} {
		b := made(t, r.size, r.l...)
		b.run(t, len(r.l)-1)
		if ok, c := b.Do(b.p, b.s); ok || c != r.want {
			t.Errorf("%v: %v, %d; want %d", r.l, ok, c, r.want)
		}
	}
	b := made(t, 4, push(1), push(2), api.Instr{Op: api.Add}, push(0), api.Instr{Op: api.LoadAt, A: 0})
	b.run(t, 5)
	b.fits(t, 5, 3, 0)
	b = made(t, 7, push(1), push(2), api.Instr{Op: api.Call, A: 1})
	b.run(t, 3)
	b.fits(t, 4)
	// A local's push needs room too.
	b.p.Code[4] = api.Instr{Op: api.Local, A: 0}
	if ok, c := b.Do(b.p, b.s); ok || c != api.TStack {
		t.Error("local:", ok, c)
	}
}

// P19.4: behind each instruction the frame has the depth of the next one.
func TestDepths(t *testing.T) {
	b := made(t, 60, push(3), api.Instr{Op: api.Store, A: 1},
		api.Instr{Op: api.Load, A: 1}, api.Instr{Op: api.JumpZero, A: 13}, push(4), api.Instr{Op: api.Load, A: 1}, push(1), api.Instr{Op: api.Sub}, api.Instr{Op: api.Store, A: 1},
		push(9), api.Instr{Op: api.Call, A: 1}, api.Instr{Op: api.Nop}, api.Instr{Op: api.Jump, A: 2}, api.Instr{Op: api.Nop})
	b.p.Code = append(b.p.Code[:15], api.Instr{Op: api.Local, A: 0}, api.Instr{Op: api.Local, A: 1}, api.Instr{Op: api.Mul}, api.Instr{Op: api.SetLocal, A: 2}, api.Instr{Op: api.Ret})
	if at, c := verify.Check(b.p); c != api.OK {
		t.Fatal(at, c)
	}
	var all []int
	for proc := range b.p.Procs {
		l, _ := verify.Depths(b.p, proc)
		all = append(all, l...)
	}
	for n := 0; ; n++ {
		if b.Stack().Operands() != all[b.At()] {
			t.Fatalf("at %d: %d operands; want %d", b.At(), b.Stack().Operands(), all[b.At()])
		}
		if ok, c := b.Do(b.p, b.s); c != api.OK {
			t.Fatal(b.At(), c)
		} else if !ok {
			if b.At() != 14 || n != 53 {
				t.Error("ends at", b.At(), "behind", n)
			}
			break
		}
	}
}

// P19.2 (rule 1): whatever program, place, stack and store: no panic.
func TestAnything(t *testing.T) {
	for op := -1; op < 41; op++ {
		for _, a := range []int{api.Least, -1, 0, 1, 5, api.Most} {
			for _, vars := range [][]api.Cell{nil, {{Base: api.Most, Size: api.Most}, {Base: -5, Size: 2}}} {
				for _, s := range []*store.Store{nil, made(t, 3).s} {
					b := made(t, 9)
					b.Stack().Ret()
					b.Goto(a)
					p := api.Program{Code: []api.Instr{{Op: op, A: a, B: a}}, Procs: []api.Entry{{At: a, Params: a, Locals: a}}, Vars: vars}
					b.Do(p, s)
					b.Goto(0)
					b.Do(p, s)
					b.Goto(0)
					b.Stack().Push(1)
					b.Stack().Push(1)
					b.Do(p, s)
				}
			}
		}
	}
}
