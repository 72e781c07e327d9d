package machine

import (
	"slices"
	"testing"

	"signalbox/api"
)

func in(op int, operands ...int) api.Instr {
	i := api.Instr{Op: op}
	if len(operands) > 0 {
		i.A = operands[0]
	}
	if len(operands) > 1 {
		i.B = operands[1]
	}
	return i
}

// source is a program of that code: procedures begin at starts, each but the first one with one parameter and two locals.
func source(starts []int, l ...api.Instr) api.Program {
	p := api.Program{
		Code: l, Procs: []api.Entry{{}}, Vars: []api.Cell{{Base: 0, Size: 3}, {Base: 3}}, Regions: 2, Semas: []int{0, 1}, Totals: []int{2},
		Vectors: [][]int{{0}, {1}, {2}, {3}},
	}
	for i, at := range starts {
		p.Procs = append(p.Procs, api.Entry{At: at, Params: 1, Locals: 2})
		p.Forks = append(p.Forks, api.Spawn{Proc: i + 1, Claim: 2})
	}
	return p
}

func limits() api.Limits {
	return api.Limits{Procs: 4, Stack: 16, Store: 100}
}

func made(t *testing.T, p api.Program, claimed bool, l api.Limits, input ...int) *Machine {
	t.Helper()
	m, c := New(p, claimed, l, input)
	if c != api.OK || m == nil {
		t.Fatalf("New: %d", c)
	}
	return m
}

func ev(at, kind, pid, a, b int) api.Event {
	return api.Event{At: at, Kind: kind, Pid: pid, A: a, B: b}
}

func stop(at, status int) api.Event {
	return ev(at, api.EvStop, 0, status, 0)
}

// steps does n steps of the first one that is ready.
func steps(m *Machine, n int) {
	for range n {
		m.Step(0)
	}
}

// trace: the trace is just this, and what a run tells fits it.
func trace(t *testing.T, m *Machine, want ...api.Event) {
	t.Helper()
	if !slices.Equal(m.Trace(), want) {
		t.Errorf("trace:\n got %v\nwant %v", m.Trace(), want)
	}
	if n := len(want); n > 0 && want[n-1].Kind == api.EvStop && (m.Status() != want[n-1].A || m.Step(0) || m.Ready() != nil || m.Steps() != want[n-1].At) {
		t.Errorf("status %d behind %v", m.Status(), want[n-1])
	}
}

// P20.1: what New refuses, in which order.
func TestNew(t *testing.T) {
	ret := source(nil, in(api.Ret))
	for i, r := range []struct {
		p     api.Program
		l     api.Limits
		input int
		want  api.Code
	}{
		{api.Program{}, api.Limits{}, 0, api.VTable}, {source(nil, in(api.Nop)), api.Limits{}, 0, api.VJump}, {source(nil, in(99)), limits(), 0, api.VInstr}, {source(nil, in(api.Write), in(api.Ret)), limits(), 2000, api.VDepth},
		{ret, api.Limits{Procs: 0, Stack: 9, Store: 99}, 0, api.ErrArg}, {ret, api.Limits{Procs: 33, Stack: 9, Store: 99}, 0, api.ErrArg}, {ret, api.Limits{Procs: 1, Stack: 0, Store: 99}, 0, api.ErrArg},
		{ret, api.Limits{Procs: 1, Stack: 513, Store: 99}, 0, api.ErrArg}, {ret, api.Limits{Procs: 1, Stack: 9, Store: -1}, 0, api.ErrArg}, {ret, api.Limits{Procs: 1, Stack: 9, Store: 8193}, 0, api.ErrArg},
		{ret, limits(), 1001, api.ErrArg}, {ret, limits(), 1000, api.OK}, {ret, api.Limits{Procs: 32, Stack: 512, Store: 8192}, 0, api.OK}, {ret, api.Limits{Procs: 1, Stack: 1, Store: 0}, 0, api.OK},
	} {
		m, c := New(r.p, true, r.l, make([]int, r.input))
		if c != r.want || (m != nil) != (c == api.OK) {
			t.Errorf("%d: %v, %d; want %d", i, m != nil, c, r.want)
		}
	}
}

// P20.1: limits' traps at the beginning.
func TestBeginsWithoutRoom(t *testing.T) {
	for _, r := range []struct {
		stack, store int
		want         api.Code
		vars         int
	}{
		{2, 0, api.TStore, 0}, {2, 3, api.TStore, 0}, {2, 4, api.TStore, 4}, {2, 5, api.TStore, 4}, {1, 4, api.TStore, 4}, {1, 5, api.TStack, 4}, {2, 6, api.OK, 4},
	} {
		m := made(t, source(nil, in(api.Ret)), true, api.Limits{Procs: 1, Stack: r.stack, Store: r.store})
		if len(m.Vars()) != r.vars {
			t.Errorf("%v: variables %v", r, m.Vars())
		}
		if r.want == api.OK {
			trace(t, m)
			continue
		}
		trace(t, m, ev(0, api.EvTrap, 1, int(r.want), 0), stop(0, api.StLimit))
		res := m.Run([]int{0, 0})
		if m.Kernel() != nil || m.Blocked() != nil || m.At(1) != -1 || m.Ran() != 0 || res.Status != api.StLimit || len(res.Trace) != 2 || res.Steps != 0 {
			t.Errorf("%v: %v", r, res)
		}
	}
}

// P20.1: who claims more than there is, is trapped ahead of the first step.
func TestBeginsTrapped(t *testing.T) {
	p := source(nil, in(api.Ret))
	p.Claim = 3
	m := made(t, p, true, limits())
	trace(t, m, ev(0, api.EvTrap, 1, int(api.TClaim), 0), stop(0, api.StDone))
	if m.Kernel() == nil || m.At(1) != -1 {
		t.Error("no kernel, or 1 stands somewhere")
	}
	trace(t, made(t, p, false, limits()))
}

// P20.2: the document's example; input and output.
func TestReadAndWrite(t *testing.T) {
	p := source(nil, in(api.Read), in(api.Write), in(api.Ret))
	m := made(t, p, true, limits(), 7, 8)
	if m.Left() != 2 || m.At(1) != 0 || m.Status() != api.StRuns || !slices.Equal(m.Ready(), []int{1}) {
		t.Error(m.Left(), m.At(1), m.Status(), m.Ready())
	}
	res := m.Run([]int{0, 5, -3})
	trace(t, m, ev(2, api.EvWrite, 1, 7, 0), ev(3, api.EvEnd, 1, 0, 0), stop(3, api.StDone))
	if m.Left() != 1 || res.Status != api.StDone || res.Steps != 3 || res.Fault != (api.Fault{}) || len(res.Blocked) != 0 || !slices.Equal(res.Trace, m.Trace()) {
		t.Error(m.Left(), res)
	}
	m = made(t, p, true, limits())
	steps(m, 1)
	trace(t, m, ev(1, api.EvTrap, 1, int(api.TInput), 0), stop(1, api.StDone))
	// No room: the number stays there.
	m = made(t, source(nil, in(api.Push, 1), in(api.Read), in(api.Write), in(api.Write), in(api.Ret)), true, api.Limits{Procs: 1, Stack: 3, Store: 9}, 5)
	steps(m, 2)
	trace(t, m, ev(2, api.EvTrap, 1, int(api.TStack), 0), stop(2, api.StLimit))
	if m.Left() != 1 || m.At(1) != -1 {
		t.Error(m.Left(), m.At(1))
	}
	// Nothing is left goes ahead of no room.
	m = made(t, source(nil, in(api.Push, 1), in(api.Read), in(api.Write), in(api.Write), in(api.Ret)), true, api.Limits{Procs: 1, Stack: 3, Store: 9})
	steps(m, 2)
	trace(t, m, ev(2, api.EvTrap, 1, int(api.TInput), 0), stop(2, api.StDone))
}

// P20.4: a run that is not over can go on.
func TestRunGoesOn(t *testing.T) {
	m := made(t, source(nil, in(api.Push, 4), in(api.Store, 1), in(api.Nop), in(api.Ret)), true, limits())
	for n, want := range []api.Result{{Status: api.StOut, Trace: []api.Event{stop(0, api.StOut)}}, {Status: api.StOut, Steps: 2, Trace: []api.Event{stop(2, api.StOut)}}} {
		r := m.Run(make([]int, 2*n))
		if r.Status != want.Status || r.Steps != want.Steps || !slices.Equal(r.Trace, want.Trace) {
			t.Error(r)
		}
	}
	trace(t, m)
	if m.Status() != api.StRuns || m.At(1) != 2 || m.At(2) != -1 || m.At(0) != -1 || m.Ran() != 1 || !slices.Equal(m.Vars(), []int{0, 0, 0, 4}) {
		t.Error(m.Status(), m.At(1), m.Ran(), m.Vars())
	}
	r := m.Run(make([]int, 9))
	if r.Status != api.StDone || r.Steps != 4 || m.At(1) != -1 {
		t.Error(r, m.At(1))
	}
}

// P20.2, P20.3: a fork's child has its arguments as its first locals; the parent joins.
func TestForkAndJoin(t *testing.T) {
	p := source([]int{6}, in(api.Push, 9), in(api.Push, 5), in(api.Fork, 0), in(api.Join), in(api.Write), in(api.Ret), in(api.Local, 0), in(api.Local, 1), in(api.Add), in(api.Write), in(api.Ret))
	m := made(t, p, true, limits())
	steps(m, 3)
	if !slices.Equal(m.Ready(), []int{1, 2}) || m.At(1) != 3 || m.At(2) != 6 || m.Kernel().Alloc().Claim(2)[0] != 2 {
		t.Error(m.Ready(), m.At(1), m.At(2))
	}
	steps(m, 1)
	if !slices.Equal(m.Ready(), []int{2}) || !slices.Equal(m.Blocked(), []int{1}) || m.At(1) != 4 {
		t.Error(m.Ready(), m.Blocked(), m.At(1))
	}
	steps(m, 5)
	if m.At(2) != -1 || m.At(1) != 4 || m.Status() != api.StRuns {
		t.Error("behind the child's end:", m.At(2), m.At(1))
	}
	steps(m, 2)
	trace(t, m, ev(4, api.EvBlock, 1, api.WJoin, 0), ev(8, api.EvWrite, 2, 5, 0), ev(9, api.EvEnd, 2, 0, 0), ev(10, api.EvWrite, 1, 9, 0), ev(11, api.EvEnd, 1, 0, 0), stop(11, api.StDone))
}

// P20.2: parameters are the first locals in the order in which they were pushed.
func TestForkOfTwo(t *testing.T) {
	p := source([]int{6}, in(api.Push, 1), in(api.Push, 2), in(api.Push, 3), in(api.Fork, 0), in(api.Write), in(api.Ret), in(api.Local, 0), in(api.Write), in(api.Local, 1), in(api.Write), in(api.Local, 2), in(api.Write), in(api.Ret))
	p.Procs[1] = api.Entry{At: 6, Params: 2, Locals: 3}
	m := made(t, p, true, limits())
	res := m.Run([]int{0, 0, 0, 0, 1, 1, 1, 1, 1, 1, 1, 0, 0})
	want := []api.Event{ev(6, api.EvWrite, 2, 2, 0), ev(8, api.EvWrite, 2, 3, 0), ev(10, api.EvWrite, 2, 0, 0), ev(11, api.EvEnd, 2, 0, 0), ev(12, api.EvWrite, 1, 1, 0), ev(13, api.EvEnd, 1, 0, 0), stop(13, api.StDone)}
	if !slices.Equal(res.Trace, want) {
		t.Error(res.Trace)
	}
}

// P20.2: what a fork refuses, in which order.
func TestForkRefuses(t *testing.T) {
	p := source([]int{4}, in(api.Push, 5), in(api.Fork, 0), in(api.Jump, 0), in(api.Ret), in(api.Ret))
	for _, r := range []struct {
		l    api.Limits
		fork int
		want api.Code
	}{
		{api.Limits{Procs: 3, Stack: 8, Store: 100}, 3, api.TProcs}, {api.Limits{Procs: 9, Stack: 8, Store: 4 + 8*3 + 7}, 3, api.TStore}, {api.Limits{Procs: 1, Stack: 3, Store: 7}, 1, api.TProcs}, {api.Limits{Procs: 2, Stack: 3, Store: 7}, 1, api.TStore},
		{api.Limits{Procs: 2, Stack: 3, Store: 99}, 1, api.TStack}, {api.Limits{Procs: 2, Stack: 4, Store: 99}, 2, api.TProcs},
	} {
		m := made(t, p, true, r.l)
		steps(m, 1000)
		at := 3*r.fork - 1
		trace(t, m, ev(at, api.EvTrap, 1, int(r.want), 0), stop(at, api.StLimit))
	}
	p = source([]int{5}, in(api.Request, 1), in(api.Push, 5), in(api.Fork, 0), in(api.Ret), in(api.Ret), in(api.Ret))
	p.Claim = 1
	m := made(t, p, true, api.Limits{Procs: 1, Stack: 3, Store: 7})
	steps(m, 9)
	trace(t, m, ev(1, api.EvGrant, 1, 1, 0), ev(3, api.EvTrap, 1, int(api.TFork), 0), stop(3, api.StDone))
}

// P20.2, P20.3: a child that claims more than there is, is trapped at once; it has no segment.
func TestForkOfTrapped(t *testing.T) {
	p := source([]int{4}, in(api.Push, 5), in(api.Fork, 0), in(api.Jump, 0), in(api.Ret), in(api.Ret))
	p.Forks[0].Claim = 3
	m := made(t, p, true, api.Limits{Procs: 2, Stack: 8, Store: 4 + 16})
	steps(m, 30)
	// Where there is no room for it, that goes ahead of what it claims.
	small := made(t, p, true, api.Limits{Procs: 2, Stack: 3, Store: 4 + 16})
	steps(small, 9)
	trace(t, small, ev(2, api.EvTrap, 1, int(api.TStack), 0), stop(2, api.StLimit))
	if m.Status() != api.StRuns || len(m.Trace()) != 10 || m.Trace()[9] != ev(29, api.EvTrap, 11, int(api.TClaim), 0) || m.At(11) != -1 {
		t.Error(m.Status(), m.Trace())
	}
}

// P20.3: segments are given back; processes come and go without end.
func TestSegmentsComeBack(t *testing.T) {
	p := source([]int{4}, in(api.Push, 5), in(api.Fork, 0), in(api.Join), in(api.Jump, 0), in(api.Local, 1), in(api.SetLocal, 0), in(api.Ret))
	m := made(t, p, true, api.Limits{Procs: 2, Stack: 8, Store: 4 + 16})
	steps(m, 7*100)
	if m.Status() != api.StRuns || m.Kernel().Procs().Count() != 101 || m.Kernel().Procs().Live() != 1 {
		t.Error(m.Status(), m.Kernel().Procs().Count())
	}
}

// P20.2: semaphores, by two processes, and who stands where.
func TestSemas(t *testing.T) {
	p := source([]int{5}, in(api.Push, 5), in(api.Fork, 0), in(api.P, 0), in(api.Nop), in(api.Ret), in(api.P, 1), in(api.V, 0), in(api.Ret))
	m := made(t, p, true, limits())
	steps(m, 3)
	if m.At(1) != 3 || !slices.Equal(m.Blocked(), []int{1}) {
		t.Error(m.At(1), m.Blocked())
	}
	steps(m, 2)
	if !slices.Equal(m.Ready(), []int{1, 2}) || m.At(2) != 7 || m.Ran() != 2 {
		t.Error(m.Ready(), m.At(2))
	}
	m.Run([]int{1, 0, 0})
	trace(t, m, ev(3, api.EvBlock, 1, api.WSema, 0), ev(6, api.EvEnd, 2, 0, 0), ev(8, api.EvEnd, 1, 0, 0), stop(8, api.StDone))
	// Nobody is ready, and one is live.
	m = made(t, source(nil, in(api.P, 0), in(api.Ret)), true, limits())
	res := m.Run([]int{0, 0})
	trace(t, m, ev(1, api.EvBlock, 1, api.WSema, 0), stop(1, api.StDead))
	if !slices.Equal(res.Blocked, []int{1}) || res.Status != api.StDead || m.At(1) != -1 || !slices.Equal(m.Blocked(), []int{1}) {
		t.Error(res, m.At(1))
	}
}

// P20.2: regions: who waits for its condition begins anew at B.
func TestRegions(t *testing.T) {
	p := source([]int{8}, in(api.Push, 5), in(api.Fork, 0), in(api.Enter, 1), in(api.Load, 1), in(api.Await, 1, 3), in(api.Leave, 1), in(api.Nop), in(api.Ret),
		in(api.Enter, 1), in(api.Local, 0), in(api.Store, 1), in(api.Leave, 1), in(api.Ret))
	m := made(t, p, true, limits())
	steps(m, 4)
	m.Step(1)
	if !slices.Equal(m.Blocked(), []int{2}) || m.At(2) != 9 {
		t.Error(m.Blocked(), m.At(2))
	}
	m.Step(0)
	if !slices.Equal(m.Blocked(), []int{1}) || m.At(1) != 3 {
		t.Error(m.Blocked(), m.At(1))
	}
	steps(m, 3)
	if m.Kernel().Region(1).Occupant() != 1 || !slices.Equal(m.Ready(), []int{1, 2}) {
		t.Error(m.Kernel().Region(1).Occupant(), m.Ready())
	}
	steps(m, 2)
	if m.At(1) != 5 {
		t.Error(m.At(1))
	}
	steps(m, 4)
	trace(t, m, ev(5, api.EvBlock, 2, api.WEnter, 1), ev(6, api.EvBlock, 1, api.WAwait, 1), ev(14, api.EvEnd, 1, 0, 0), ev(15, api.EvEnd, 2, 0, 0), stop(15, api.StDone))
	for _, l := range [][]api.Instr{{in(api.Leave, 0), in(api.Ret)}, {in(api.Enter, 0), in(api.Enter, 0), in(api.Ret)}, {in(api.Push), in(api.Await, 0, 0), in(api.Ret)}} {
		m := made(t, source(nil, l...), true, limits())
		steps(m, 9)
		at := len(l) - 1
		trace(t, m, ev(at, api.EvTrap, 1, int(api.TRegion), 0), stop(at, api.StDone))
	}
}

// P20.2: units, by their vectors; codes of the kernel are traps.
func TestUnits(t *testing.T) {
	p := source([]int{6}, in(api.Push, 5), in(api.Fork, 0), in(api.Request, 2), in(api.Release, 1), in(api.Release, 1), in(api.Ret), in(api.Request, 1), in(api.Request, 2), in(api.Ret))
	p.Claim = 2
	m := made(t, p, true, limits())
	m.Run([]int{0, 0, 0, 1, 0, 0, 0, 0})
	trace(t, m, ev(3, api.EvGrant, 1, 2, 0), ev(4, api.EvBlock, 2, api.WUnits, 1), ev(6, api.EvGrant, 2, 1, 0), ev(7, api.EvEnd, 1, 0, 0), ev(8, api.EvTrap, 2, int(api.TClaim), 0), stop(8, api.StDone))
	m = made(t, source(nil, in(api.Release, 1), in(api.Ret)), true, limits())
	steps(m, 1)
	trace(t, m, ev(1, api.EvTrap, 1, int(api.TRelease), 0), stop(1, api.StDone))
}

// P20.3: a trap ends one process; what it held is granted to others, behind its trap.
func TestTrapOfOne(t *testing.T) {
	p := source([]int{8}, in(api.Request, 2), in(api.Release, 2), in(api.Push, 5), in(api.Fork, 0), in(api.Request, 2), in(api.Push, 1), in(api.Push, 0), in(api.Div), in(api.Request, 2), in(api.Ret))
	p.Code[7] = in(api.Jump, 7)
	p.Code = slices.Insert(p.Code, 7, in(api.Div), in(api.Write))
	p.Code[9] = in(api.Ret)
	p.Procs[1].At = 10
	p.Claim = 2
	m := made(t, p, true, limits())
	m.Run([]int{0, 0, 0, 0, 0, 1, 0, 0, 0, 0})
	trace(t, m, ev(1, api.EvGrant, 1, 2, 0), ev(5, api.EvGrant, 1, 2, 0), ev(6, api.EvBlock, 2, api.WUnits, 2), ev(9, api.EvTrap, 1, int(api.TZero), 0), ev(9, api.EvGrant, 2, 2, 0), ev(10, api.EvEnd, 2, 0, 0), stop(10, api.StDone))
}

// P20.2: calls within a process, as deep as there is room.
func TestCalls(t *testing.T) {
	p := source([]int{3}, in(api.Push, 1), in(api.Call, 1), in(api.Ret), in(api.Push, 1), in(api.Call, 1), in(api.Ret))
	m := made(t, p, true, api.Limits{Procs: 1, Stack: 14, Store: 18})
	steps(m, 99)
	// Two words of the first frame, four of each other one.
	trace(t, m, ev(7, api.EvTrap, 1, int(api.TStack), 0), stop(7, api.StLimit))
	p = source([]int{4}, in(api.Push, 6), in(api.Call, 1), in(api.Nop), in(api.Ret), in(api.Local, 0), in(api.Write), in(api.Ret))
	m = made(t, p, true, limits())
	steps(m, 99)
	trace(t, m, ev(4, api.EvWrite, 1, 6, 0), ev(7, api.EvEnd, 1, 0, 0), stop(7, api.StDone))
}

// P20.4: picks are taken modulo how many are ready.
func TestPicks(t *testing.T) {
	p := source([]int{5}, in(api.Push, 5), in(api.Fork, 0), in(api.Push, 6), in(api.Fork, 0), in(api.Jump, 4), in(api.Jump, 5))
	m := made(t, p, true, limits())
	steps(m, 4)
	for _, r := range [][2]int{{0, 1}, {1, 2}, {2, 3}, {3, 1}, {-1, 3}, {-2, 2}, {api.Most, 2}, {api.Least, 2}} {
		if !m.Step(r[0]) || m.Ran() != r[1] {
			t.Errorf("pick %d: %d ran", r[0], m.Ran())
		}
	}
}

// P20.1, P20.4 (rule 3): what is handed in is not kept, what is told is new memory.
func TestMemory(t *testing.T) {
	p := source([]int{5}, in(api.Read), in(api.Store, 1), in(api.Request, 1), in(api.Jump, 2), in(api.Ret), in(api.Ret))
	p.Claim = 2
	input := []int{3, 4}
	m := made(t, p, true, limits(), input...)
	m2, _ := New(p, true, limits(), input)
	input[0] = 99
	for i := range p.Code {
		p.Code[i] = in(99)
	}
	p.Vectors[1][0], p.Vectors[2], p.Vars[1].Base, p.Semas[0], p.Totals[0], p.Procs[1].At = 0, nil, 0, 9, 9, 0
	m2.Run([]int{0, 0, 0})
	m.Run([]int{0, 0, 0})
	if !slices.Equal(m2.Vars(), []int{0, 0, 0, 3}) || !slices.Equal(m2.Trace(), []api.Event{ev(3, api.EvGrant, 1, 1, 0)}) {
		t.Error(m2.Vars(), m2.Trace())
	}
	m2.Vars()[3], m2.Trace()[0].A, m2.Ready()[0] = 8, 8, 8
	r := m2.Run(nil)
	r.Trace[0].A = 8
	if m2.Vars()[3] != 3 || m2.Trace()[0].A != 1 || m2.Ready()[0] != 1 {
		t.Error("what is told is the machine's own")
	}
}

// P20.4 (rule 9): a nil Machine.
func TestNil(t *testing.T) {
	for _, m := range []*Machine{nil, {}} {
		r := m.Run([]int{1})
		if m.Step(0) || r.Status != 0 || r.Steps != 0 || r.Trace != nil || r.Blocked != nil || m.Status() != 0 || m.Steps() != 0 || m.Trace() != nil || m.Ready() != nil {
			t.Error("a nil Machine tells something")
		}
		if m.Blocked() != nil || m.Ran() != 0 || m.At(1) != -1 || m.Left() != 0 || m.Vars() != nil || m.Kernel() != nil {
			t.Error("a nil Machine tells something")
		}
	}
}

// P20.5: the same picks make the same trace, and nothing comes behind an EvStop.
func TestSameTrace(t *testing.T) {
	p := source([]int{7}, in(api.Push, 5), in(api.Fork, 0), in(api.Push, 6), in(api.Fork, 0), in(api.Join), in(api.Nop), in(api.Ret), in(api.P, 1), in(api.Local, 0), in(api.Write), in(api.V, 1), in(api.Ret))
	for seed := range 50 {
		var l []int
		for i := range 60 {
			l = append(l, (seed*31+i*17)%(seed+3)-seed)
		}
		a, b := made(t, p, true, limits()).Run(l), made(t, p, true, limits()).Run(l)
		if !slices.Equal(a.Trace, b.Trace) || a.Status != api.StDone {
			t.Fatal(a, b)
		}
		for i, e := range a.Trace {
			if (e.Kind == api.EvStop) != (i == len(a.Trace)-1) {
				t.Fatal(a.Trace)
			}
		}
	}
}
