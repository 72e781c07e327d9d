package interp

import (
	"fmt"
	"slices"
	"testing"

	"signalbox/api"
	"signalbox/event"
	"signalbox/gen"
	"signalbox/machine"
	"signalbox/parse"
	"signalbox/sample"
	"signalbox/scope"
	"signalbox/typing"
)

// front reads a source that the front end accepts.
func front(t *testing.T, src string) (api.Source, *scope.Table) {
	t.Helper()
	s, f := parse.Parse([]byte(src))
	if f.Code != api.OK {
		t.Fatalf("%s\n%v", src, f)
	}
	table, f := scope.Build(s)
	if f.Code != api.OK {
		t.Fatalf("%s\n%v", src, f)
	}
	if f := typing.Check(s, table); f.Code != api.OK {
		t.Fatalf("%s\n%v", src, f)
	}
	return s, table
}

func made(t *testing.T, src string, claimed bool, input ...int) *Interp {
	t.Helper()
	s, table := front(t, src)
	i := New(s, table, claimed, input)
	if i == nil {
		t.Fatal("none")
	}
	return i
}

// body is a source of these statements.
func body(stmts string) string {
	return "program p; resource r 2; semaphore s 0; shared v; shared w[2]; var x; var a[3]; procedure f(b, c); var d; begin write b - c + d; d := 7 end; procedure g(); begin request r 1; P(s) end; procedure h(); begin region v do v := 1 od end; claims r 2; begin " + stmts + " end."
}

func ev(at, kind, pid, a, b int) api.Event {
	return api.Event{At: at, Kind: kind, Pid: pid, A: a, B: b}
}

// runs: with so many picks of 0 the events are just these, the last one's step the last.
func runs(t *testing.T, stmts string, input []int, want ...api.Event) *Interp {
	t.Helper()
	i := made(t, body(stmts), true, input...)
	r := i.Run(make([]int, 200))
	if !slices.Equal(r.Trace, want) || !slices.Equal(i.Trace(), want) {
		t.Errorf("%s:\n got %v\nwant %v", stmts, r.Trace, want)
	}
	return i
}

// ends: 1 ends at that step, and nothing else is to be seen.
func ends(t *testing.T, stmts string, at int) *Interp {
	t.Helper()
	return runs(t, stmts, nil, ev(at, api.EvEnd, 1, 0, 0), ev(at, api.EvStop, 0, api.StDone, 0))
}

// traps: 1 is trapped at that step.
func traps(t *testing.T, stmts string, at int, c api.Code) {
	t.Helper()
	runs(t, stmts, nil, ev(at, api.EvTrap, 1, int(c), 0), ev(at, api.EvStop, 0, api.StDone, 0))
}

// P31.2: how many steps there are.
func TestSteps(t *testing.T) {
	ends(t, "skip", 2)
	ends(t, "x := 1 + 2 * -3", 6+1+1)
	ends(t, "a[1] := 2", 3+1)
	ends(t, "if true then skip fi", 2+1+1)
	ends(t, "if false then skip fi", 2+1)
	ends(t, "if true then skip else skip; skip fi", 2+1+1+1)
	ends(t, "if false then skip else skip; skip fi", 2+2+1)
	ends(t, "while x < 2 do x := x + 1 od", 2*(4+4+1)+4+1)
	ends(t, "while false do skip od", 2+1)
	ends(t, "region v do skip od", 3+1)
	ends(t, "region v when v = 0 do skip od", 1+4+1+1+1)
	ends(t, "region w when not (w[1] = 1) do skip od", 1+6+1+1+1)
	ends(t, "h()", 1+1+2+1+1+1)
	ends(t, "V(s); P(s)", 2+1)
	runs(t, "f(9, 4)", nil, ev(9, api.EvWrite, 1, 5, 0), ev(13, api.EvEnd, 1, 0, 0), ev(13, api.EvStop, 0, api.StDone, 0))
	runs(t, "write 1 + 2", nil, ev(4, api.EvWrite, 1, 3, 0), ev(5, api.EvEnd, 1, 0, 0), ev(5, api.EvStop, 0, api.StDone, 0))
	runs(t, "read x; read a[1]; write x + a[1]", []int{5, 6, 7}, ev(10, api.EvWrite, 1, 11, 0), ev(11, api.EvEnd, 1, 0, 0), ev(11, api.EvStop, 0, api.StDone, 0))
	runs(t, "request r 2; release r 1", nil, ev(1, api.EvGrant, 1, 2, 0), ev(3, api.EvEnd, 1, 0, 0), ev(3, api.EvStop, 0, api.StDone, 0))
}

// P31.2: values, and where they are set.
func TestValues(t *testing.T) {
	i := ends(t, "x := 7; a[2] := x * x; a[0] := a[2] % 10 - 1", 2+5+8+1)
	if !slices.Equal(i.Vars(), []int{0, 0, 0, 7, 8, 0, 49}) {
		t.Error(i.Vars())
	}
	i = ends(t, "region v do v := 5; region w do w[1] := v od od", 9+1)
	if !slices.Equal(i.Vars(), []int{5, 0, 5, 0, 0, 0, 0}) {
		t.Error(i.Vars())
	}
	runs(t, "if 1 < 2 and not (3 = 4) or false then write -5 / 2 fi", nil, ev(16, api.EvWrite, 1, -2, 0), ev(17, api.EvEnd, 1, 0, 0), ev(17, api.EvStop, 0, api.StDone, 0))
}

// P31.2, P31.3: traps.
func TestTraps(t *testing.T) {
	traps(t, "x := 1 / 0", 3, api.TZero)
	traps(t, "x := 1 % 0", 3, api.TZero)
	traps(t, "x := 9223372036854775807 + 1", 3, api.TOver)
	traps(t, "x := -(-9223372036854775807 - 1)", 5, api.TOver)
	traps(t, "x := a[3]", 2, api.TIndex)
	traps(t, "x := a[-1]", 3, api.TIndex)
	traps(t, "a[3] := 1 / 0", 4, api.TZero)
	traps(t, "a[3] := 1", 3, api.TIndex)
	traps(t, "region w do w[2] := 1 od", 4, api.TIndex)
	traps(t, "region w do x := w[2] od", 3, api.TIndex)
	traps(t, "read x", 1, api.TInput)
	traps(t, "read a[3]", 2, api.TInput)
	traps(t, "request r 3", 1, api.TClaim)
	traps(t, "release r 1", 1, api.TRelease)
	runs(t, "read a[3]", []int{1}, ev(3, api.EvTrap, 1, int(api.TIndex), 0), ev(3, api.EvStop, 0, api.StDone, 0))
	runs(t, "request r 1; cobegin h() coend", nil, ev(1, api.EvGrant, 1, 1, 0), ev(2, api.EvTrap, 1, int(api.TFork), 0), ev(2, api.EvStop, 0, api.StDone, 0))
	runs(t, "region v do h() od", nil, ev(3, api.EvTrap, 1, int(api.TRegion), 0), ev(3, api.EvStop, 0, api.StDone, 0))
}

// P31.1: the beginning.
func TestBegins(t *testing.T) {
	src := "program p; resource r 2; claims r 3; begin skip end."
	i := made(t, src, true)
	want := []api.Event{ev(0, api.EvTrap, 1, int(api.TClaim), 0), ev(0, api.EvStop, 0, api.StDone, 0)}
	if !slices.Equal(i.Trace(), want) || i.Status() != api.StDone || i.Step(0) || i.Steps() != 0 || i.Ready() != nil {
		t.Error(i.Trace(), i.Status())
	}
	i = made(t, src, false)
	if len(i.Trace()) != 0 || i.Status() != api.StRuns || !slices.Equal(i.Ready(), []int{1}) || i.Kernel().Procs().Live() != 1 || !slices.Equal(i.Kernel().Alloc().Claim(1), []int{3}) {
		t.Error(i.Trace(), i.Status())
	}
	i = made(t, body("skip"), true)
	if !slices.Equal(i.Vars(), make([]int, 7)) || i.Kernel().Alloc().Avail()[0] != 2 {
		t.Error(i.Vars())
	}
}

// P31.1: variables, of an array all elements.
func TestVars(t *testing.T) {
	for src, n := range map[string]int{"": 0, "var x;": 1, "var a[64];": 64, "shared v; var a[1]; var y; shared w[64]; var x;": 68} {
		i := made(t, "program p; "+src+" begin skip end.", true)
		if len(i.Vars()) != n {
			t.Errorf("%q: %v", src, i.Vars())
		}
	}
}

// P31.2: forks and joins; who is forked has its arguments as its first locals.
func TestForks(t *testing.T) {
	i := made(t, body("cobegin f(9, 4) // g() claims r 1 // h() coend; write 1"), true)
	// 9, 4, f is forked, g, h, join
	r := i.Run(make([]int, 6))
	if !slices.Equal(r.Trace, []api.Event{ev(6, api.EvBlock, 1, api.WJoin, 0), ev(6, api.EvStop, 0, api.StOut, 0)}) || !slices.Equal(i.Ready(), []int{2, 3, 4}) || !slices.Equal(r.Blocked, []int{1}) {
		t.Error(r, i.Ready())
	}
	r = i.Run([]int{2, 2, 2, 2, 2, 1, 1, 0, 0, 0, 0, 0, 0, 0, 0, 0, 0, 0})
	want := []api.Event{
		ev(6, api.EvBlock, 1, api.WJoin, 0), ev(11, api.EvEnd, 4, 0, 0), ev(12, api.EvGrant, 3, 1, 0), ev(13, api.EvBlock, 3, api.WSema, 0), ev(19, api.EvWrite, 2, 5, 0), ev(22, api.EvEnd, 2, 0, 0), ev(22, api.EvStop, 0, api.StDead, 0),
	}
	if !slices.Equal(r.Trace, want) || !slices.Equal(r.Blocked, []int{1, 3}) || r.Status != api.StDead {
		t.Error(r)
	}
}

// P31.2: a condition that does not hold is looked at anew, when the process is in the region again.
func TestAwait(t *testing.T) {
	src := "program p; shared v; procedure f(); begin region v when v > 0 do v := v - 1 od; write 8 end; procedure g(); begin region v do v := v + 1 od end; begin cobegin f() // f() // g() coend end."
	i := made(t, src, true)
	i.Run([]int{0, 0, 0, 0, 0, 0, 0, 0, 0, 0, 0, 0, 0, 0})
	want := []api.Event{ev(4, api.EvBlock, 1, api.WJoin, 0), ev(9, api.EvBlock, 2, api.WAwait, 0), ev(14, api.EvBlock, 3, api.WAwait, 0)}
	if !slices.Equal(i.Trace(), want) || !slices.Equal(i.Ready(), []int{4}) {
		t.Error(i.Trace(), i.Ready())
	}
	r := i.Run(make([]int, 60))
	want = append(want, ev(29, api.EvWrite, 2, 8, 0))
	if !event.Prefix(want[:3], r.Trace) || !slices.Equal(event.Outputs(r.Trace), []int{8}) || r.Status != api.StDead || !slices.Equal(r.Blocked, []int{1, 3}) || i.Vars()[0] != 0 {
		t.Error(r)
	}
}

// P31.3: too many processes end the run.
func TestTooManyProcesses(t *testing.T) {
	src := "program p; procedure f(); begin while true do skip od end; procedure g(); begin cobegin f() // f() // f() // f() // f() // f() // f() // f() coend end; begin cobegin g() // g() // g() // g() coend end."
	i := made(t, src, true)
	r := i.Run(slices.Repeat([]int{0, 1, 2, 3, 4}, 30))
	last := r.Trace[len(r.Trace)-2:]
	if r.Status != api.StLimit || last[0].Kind != api.EvTrap || last[0].A != int(api.TProcs) || last[1] != ev(r.Steps, api.EvStop, 0, api.StLimit, 0) || i.Step(0) || i.Kernel().Procs().Live() != 32 {
		t.Error(r)
	}
}

// P31.3: a run that is not over can go on.
func TestRunGoesOn(t *testing.T) {
	i := made(t, body("x := 1; x := 2"), true)
	r := i.Run([]int{5, -7})
	if r.Status != api.StOut || r.Steps != 2 || !slices.Equal(r.Trace, []api.Event{ev(2, api.EvStop, 0, api.StOut, 0)}) || i.Status() != api.StRuns || len(i.Trace()) != 0 || i.Vars()[3] != 1 {
		t.Error(r, i.Vars())
	}
	if r = i.Run(make([]int, 9)); r.Status != api.StDone || r.Steps != 5 || i.Vars()[3] != 2 {
		t.Error(r)
	}
}

// P31.4: the machine of the program that is made of the source has the same trace, status and steps.
func TestSameAsMachine(t *testing.T) {
	stopped := map[int]int{}
	kinds := map[int]int{}
	for seed := range 3000 {
		src := sample.Source(seed)
		s, table := front(t, string(src))
		l := []api.Limits{{Procs: 32, Stack: 512, Store: 8192}, {Procs: 32, Stack: 60, Store: 8192}, {Procs: 3 + seed%5, Stack: 40, Store: 400}}[seed%3]
		input, picks := sample.Numbers(seed, seed%7), sample.Numbers(seed+1, 400)
		claimed := seed%4 < 3
		m, c := machine.New(gen.Program(s, table), claimed, l, input)
		if c != api.OK {
			t.Fatalf("%s\n%d", src, c)
		}
		i := New(s, table, claimed, input)
		for n, pick := range picks {
			if m.Step(pick) != i.Step(pick) {
				break
			}
			if m.Status() != api.StLimit && (!slices.Equal(m.Ready(), i.Ready()) || !slices.Equal(m.Blocked(), i.Blocked()) || !slices.Equal(m.Vars(), i.Vars())) {
				t.Fatalf("%s\nstep %d: %v, %v, %v; %v, %v, %v", src, n, m.Ready(), m.Blocked(), m.Vars(), i.Ready(), i.Blocked(), i.Vars())
			}
		}
		stopped[m.Status()]++
		for _, e := range m.Trace() {
			kinds[100*e.Kind+e.A%50*map[bool]int{true: 1}[e.Kind == api.EvTrap || e.Kind == api.EvBlock]]++
		}
		a, b := m.Run(nil), i.Run(nil)
		if fmt.Sprint(a) == fmt.Sprint(b) {
			continue
		}
		if m.Status() != api.StLimit || !event.Prefix(a.Trace[:len(a.Trace)-2], b.Trace) {
			t.Fatalf("seed %d: %s\n%v\n%v", seed, src, a, b)
		}
	}
	if stopped[api.StDone] < 100 || stopped[api.StDead] < 20 || stopped[api.StLimit] < 100 || stopped[api.StRuns] < 100 || len(kinds) < 15 {
		t.Error("too few of one kind:", stopped, kinds)
	}
}

// P31.1 (rule 3): what is handed in is neither kept nor changed, what is told is new memory.
func TestMemory(t *testing.T) {
	s, table := front(t, body("read x; if x = 4 then cobegin f(1, 2) claims r 1 coend; request r 1 fi"))
	input := []int{4}
	i := New(s, table, true, input)
	input[0] = 9
	s.Body[1].E[0].Sub[1].Num, s.Body[1].Body[0].Branches[0].Args[0].Num, s.Body[1].Body[0].Branches[0].Claims[0].N, s.Body[1].Body[1].Items[0].N, s.Procs[0].Body[0].E[0].Op = 5, 5, 5, 5, 0
	s.Body[0].Kind = api.SSkip
	r := i.Run(make([]int, 60))
	if !slices.Equal(event.Outputs(r.Trace), []int{-1}) || r.Status != api.StDone || !slices.ContainsFunc(r.Trace, func(e api.Event) bool { return e.Kind == api.EvGrant && e.A == 1 }) {
		t.Error(r)
	}
	i.Vars()[0], i.Trace()[0].A = 77, 77
	if i.Vars()[0] == 77 || i.Trace()[0].A == 77 {
		t.Error("what is told is its own")
	}
}

// P31.3 (rule 9): a nil Interp.
func TestNil(t *testing.T) {
	for _, i := range []*Interp{nil, {}} {
		r := i.Run([]int{1})
		if i.Step(0) || r.Status != 0 || r.Steps != 0 || r.Trace != nil || r.Blocked != nil || i.Status() != 0 || i.Steps() != 0 || i.Trace() != nil || i.Ready() != nil || i.Blocked() != nil || i.Vars() != nil || i.Kernel() != nil {
			t.Error("a nil Interp tells something")
		}
	}
}

// P31.1 (rule 10): of other sources and tables the calls end.
func TestAnything(t *testing.T) {
	s, table := front(t, body("region v when v > 0 do a[x] := a[1] od; f(1, 2); cobegin f(x, 2) claims r 1 coend; read a[1]; request r 1; P(s)"))
	other, _ := scope.Build(api.Source{})
	big, _ := scope.Build(api.Source{Decls: []api.Decl{{Kind: api.DVar, Name: "x", N: api.Most}, {Kind: api.DVar, Name: "y", N: -4}}})
	for _, x := range []*scope.Table{nil, other, big} {
		New(s, x, true, nil).Run(make([]int, 50))
	}
	for kind := -1; kind < 18; kind++ {
		for n := range 3 {
			for _, name := range []string{"", "f", "a", "x", "v"} {
				x := api.Expr{Kind: kind, Op: 9 + n, Name: name, Sub: make([]api.Expr, n)}
				stmt := api.Stmt{Kind: kind, Name: name, E: []api.Expr{x, x}[:n], Body: make([]api.Stmt, n), Else: make([]api.Stmt, n/2), Branches: make([]api.Branch, n), Items: make([]api.Item, n)}
				odd := api.Source{Body: []api.Stmt{stmt, {Kind: api.SWrite, E: []api.Expr{x}}}, Procs: []api.Proc{{Body: []api.Stmt{stmt}}}, Claims: make([]api.Item, n)}
				New(odd, table, true, nil).Run(make([]int, 30))
				New(odd, nil, true, nil).Run(make([]int, 30))
			}
		}
	}
}
