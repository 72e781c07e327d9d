package verify

import (
	"slices"
	"testing"

	"signalbox/api"
)

// base is a program of which nothing is wrong; tests turn one thing of it.
func base() api.Program {
	return api.Program{
		Code: []api.Instr{
			{Op: api.Push, A: 1}, {Op: api.Push, A: 2}, {Op: api.Call, A: 1}, {Op: api.Ret},
			{Op: api.Local, A: 2}, {Op: api.JumpZero, A: 8}, {Op: api.Nop}, {Op: api.Jump, A: 4}, {Op: api.Ret},
			{Op: api.Ret},
		},
		Procs:   []api.Entry{{}, {At: 4, Params: 2, Locals: 3}, {At: 9}},
		Vars:    []api.Cell{{Base: 0, Size: 3}, {Base: 3}},
		Regions: 2,
		Semas:   []int{1},
		Totals:  []int{2, 3},
		Vectors: [][]int{{0, 0}, {1, 2}},
		Forks:   []api.Spawn{{Proc: 1, Claim: 1}},
		Claim:   0,
	}
}

func check(t *testing.T, what string, p api.Program, at int, c api.Code) {
	t.Helper()
	if x, d := Check(p); x != at || d != c {
		t.Errorf("%s: %d, %d; want %d, %d", what, x, d, at, c)
	}
	if c != api.OK {
		if l, ok := Depths(p, 0); l != nil || ok {
			t.Errorf("%s: depths %v", what, l)
		}
	}
}

// turned is base with one thing turned.
func turned(f func(p *api.Program)) api.Program {
	p := base()
	f(&p)
	return p
}

// body is a program of one procedure with that code, with the tables of base.
func body(l ...api.Instr) api.Program {
	p := base()
	p.Code = append(slices.Clone(l), api.Instr{Op: api.Ret}, api.Instr{Op: api.Ret})
	p.Procs = []api.Entry{{}, {At: len(l), Params: 2, Locals: 3}, {At: len(l) + 1}}
	return p
}

// P7.1: programs of which nothing is wrong.
func TestNothingWrong(t *testing.T) {
	check(t, "base", base(), 0, api.OK)
	check(t, "ret alone", api.Program{Code: []api.Instr{{Op: api.Ret}}, Procs: []api.Entry{{}}, Vectors: [][]int{nil}}, 0, api.OK)
}

// P7.1: each table, at what just may be and one further.
func TestTables(t *testing.T) {
	for _, r := range []struct {
		what  string
		table int
		turn  func(p *api.Program)
	}{
		{"no procedures", 0, func(p *api.Program) { p.Procs = nil }},
		{"vector's length", 0, func(p *api.Program) { p.Vectors[1] = []int{1} }},
		{"first At", 1, func(p *api.Program) { p.Procs[0].At = 1 }},
		{"first Params", 1, func(p *api.Program) { p.Procs[0].Params, p.Procs[0].Locals = 1, 1 }},
		{"first Locals", 1, func(p *api.Program) { p.Procs[0].Locals = 1 }},
		{"At alike", 1, func(p *api.Program) { p.Procs[2].At = 4 }},
		{"At falls", 1, func(p *api.Program) { p.Procs[2].At = 3 }},
		{"At 0 again", 1, func(p *api.Program) { p.Procs[1].At = 0 }},
		{"At beyond", 1, func(p *api.Program) { p.Procs[2].At = 10 }},
		{"At far below", 1, func(p *api.Program) { p.Procs[2].At = api.Least }},
		{"no code", 1, func(p *api.Program) { p.Code, p.Procs = nil, p.Procs[:1] }},
		{"Params below", 1, func(p *api.Program) { p.Procs[1].Params = -1 }},
		{"Params above", 1, func(p *api.Program) { p.Procs[1].Params, p.Procs[1].Locals = 5, 5 }},
		{"Locals below", 1, func(p *api.Program) { p.Procs[1].Locals = 1 }},
		{"Locals above", 1, func(p *api.Program) { p.Procs[1].Locals = 9 }},
		{"Base below", 2, func(p *api.Program) { p.Vars[0].Base = -1 }},
		{"Size below", 2, func(p *api.Program) { p.Vars[0].Size = -1 }},
		{"Size above", 2, func(p *api.Program) { p.Vars[0].Size = 65 }},
		{"Base and Size", 2, func(p *api.Program) { p.Vars[0] = api.Cell{Base: api.MaxStore - 2, Size: 3} }},
		{"Base and 1", 2, func(p *api.Program) { p.Vars[1] = api.Cell{Base: api.MaxStore} }},
		{"Base round", 2, func(p *api.Program) { p.Vars[0] = api.Cell{Base: api.Most, Size: 3} }},
		{"Size round", 2, func(p *api.Program) { p.Vars[0] = api.Cell{Base: 1, Size: api.Most} }},
		{"Regions below", 3, func(p *api.Program) { p.Regions = -1 }},
		{"Regions above", 3, func(p *api.Program) { p.Regions = 17 }},
		{"Semas below", 4, func(p *api.Program) { p.Semas[0] = -1 }},
		{"Semas above", 4, func(p *api.Program) { p.Semas[0] = 1001 }},
		{"Totals below", 5, func(p *api.Program) { p.Totals[1] = 0 }},
		{"Totals above", 5, func(p *api.Program) { p.Totals[1] = 1001 }},
		{"Vectors below", 6, func(p *api.Program) { p.Vectors[1][1] = -1 }},
		{"Vectors above", 6, func(p *api.Program) { p.Vectors[1][1] = 1001 }},
		{"Forks' Proc 0", 7, func(p *api.Program) { p.Forks[0].Proc = 0 }},
		{"Forks' Proc", 7, func(p *api.Program) { p.Forks[0].Proc = 3 }},
		{"Forks' Claim", 7, func(p *api.Program) { p.Forks[0].Claim = 2 }},
		{"Forks' Claim below", 7, func(p *api.Program) { p.Forks[0].Claim = -1 }},
		{"Claim", 8, func(p *api.Program) { p.Claim = 2 }},
		{"Claim below", 8, func(p *api.Program) { p.Claim = -1 }},
		{"no vectors", 8, func(p *api.Program) { p.Vectors, p.Forks = nil, nil }},
	} {
		check(t, r.what, turned(r.turn), r.table, api.VTable)
	}
	for _, f := range []func(p *api.Program){
		func(p *api.Program) { p.Procs[1].Locals = 8 }, func(p *api.Program) { p.Procs[2] = api.Entry{At: 9, Params: 4, Locals: 4} },
		func(p *api.Program) { p.Vars[0] = api.Cell{Base: api.MaxStore - 64, Size: 64} }, func(p *api.Program) { p.Vars[0] = api.Cell{Base: api.MaxStore - 1} },
		func(p *api.Program) { p.Regions = 16 }, func(p *api.Program) { p.Regions = 0 }, func(p *api.Program) { p.Semas[0] = 0 }, func(p *api.Program) { p.Semas[0] = 1000 },
		func(p *api.Program) { p.Totals[0] = 1000 }, func(p *api.Program) { p.Totals[0] = 1 }, func(p *api.Program) { p.Vectors[0][0] = 1000 }, func(p *api.Program) { p.Claim = 1 },
	} {
		check(t, "just may be", turned(f), 0, api.OK)
	}
}

// P7.1: of several the first one is told: tables by number, instructions ahead of depths.
func TestOrder(t *testing.T) {
	p := turned(func(p *api.Program) { p.Claim, p.Regions, p.Code[0] = 9, -1, api.Instr{} })
	check(t, "tables first", p, 3, api.VTable)
	p = body(api.Instr{Op: api.Add}, api.Instr{Op: api.Jump, A: 99}, api.Instr{Op: 99})
	check(t, "the first instruction", p, 1, api.VJump)
	p = body(api.Instr{Op: api.Add}, api.Instr{Op: 99}, api.Instr{Op: api.Jump, A: 99})
	check(t, "the first instruction", p, 1, api.VInstr)
	p = body(api.Instr{Op: api.Add}, api.Instr{Op: api.Await, A: 2, B: 99})
	check(t, "operand ahead of place", p, 1, api.VInstr)
}

// P7.1: instructions and operands.
func TestInstructions(t *testing.T) {
	bad := []api.Instr{
		{Op: 0}, {Op: -1}, {Op: 39}, {Op: api.Nop, A: 1}, {Op: api.Nop, B: 1}, {Op: api.Push, A: 1, B: 1}, {Op: api.Ret, A: 1}, {Op: api.Join, B: -1}, {Op: api.Jump, A: 0, B: 1},
		{Op: api.Load, A: 2}, {Op: api.Load, A: -1}, {Op: api.Store, A: 2}, {Op: api.LoadAt, A: 2}, {Op: api.StoreAt, A: 2}, {Op: api.Local, A: 0}, {Op: api.SetLocal, A: 0},
		{Op: api.Call, A: 0}, {Op: api.Call, A: 3}, {Op: api.Call, A: -1}, {Op: api.Fork, A: 1}, {Op: api.Fork, A: -1}, {Op: api.P, A: 1}, {Op: api.V, A: -1}, {Op: api.V, A: 1},
		{Op: api.Enter, A: 2}, {Op: api.Leave, A: -1}, {Op: api.Leave, A: 2}, {Op: api.Await, A: 2}, {Op: api.Await, A: -1}, {Op: api.Request, A: 2}, {Op: api.Release, A: -1}, {Op: api.Release, A: 2},
		{Op: api.Read, A: 1}, {Op: api.Write, A: 1}, {Op: api.Load, A: api.Most}, {Op: api.Call, A: api.Least}, {Op: api.Await, A: 0, B: -1}, {Op: api.Jump, A: -1}, {Op: api.JumpZero, A: 4},
	}
	for _, i := range bad {
		want := api.VInstr
		if i.Op == api.Jump && i.B == 0 || i.Op == api.JumpZero || i.Op == api.Await && i.B != 0 {
			want = api.VJump
		}
		check(t, "instruction", body(api.Instr{Op: api.Nop}, i, api.Instr{Op: api.Nop}), 1, want)
	}
	p := base()
	p.Code[4].A = 3
	check(t, "local beyond", p, 4, api.VInstr)
	p.Code[4].A = -1
	check(t, "local below", p, 4, api.VInstr)
}

// P7.1: a way leads to own instructions alone, and never off the end.
func TestJumps(t *testing.T) {
	for _, to := range []int{3, 9, -1, 10, api.Most} {
		p := base()
		p.Code[7].A = to
		check(t, "jump out", p, 7, api.VJump)
		p = base()
		p.Code[5].A = to
		check(t, "jumpzero out", p, 5, api.VJump)
		p = base()
		p.Code[5] = api.Instr{Op: api.Await, A: 1, B: to}
		check(t, "await out", p, 5, api.VJump)
	}
	for _, last := range []api.Instr{{Op: api.Nop}, {Op: api.JumpZero, A: 4}, {Op: api.Await, A: 0, B: 4}, {Op: api.Join}} {
		p := base()
		p.Code[8] = last
		check(t, "the last one", p, 8, api.VJump)
		p = base()
		p.Code[9] = api.Instr{Op: last.Op}
		if last.Op == api.JumpZero {
			p.Code[9].A = 9
		} else if last.Op == api.Await {
			p.Code[9].B = 9
		}
		check(t, "the very last one", p, 9, api.VJump)
	}
	p := base()
	p.Code[9] = api.Instr{Op: api.Jump, A: 9}
	check(t, "a jump to itself", p, 0, api.OK)
}

// P7.1: depths that are not right, by procedure.
func TestDepths(t *testing.T) {
	push, nop, ret := api.Instr{Op: api.Push}, api.Instr{Op: api.Nop}, api.Instr{Op: api.Ret}
	wrong := [][]api.Instr{
		{{Op: api.Add}, ret}, {push, {Op: api.Add}, ret}, {push, ret}, {{Op: api.Write}, ret}, {push, {Op: api.Call, A: 1}, ret}, {push, {Op: api.Fork, A: 0}, ret},
		{push, {Op: api.StoreAt, A: 0}, ret}, {{Op: api.Await, A: 0}, ret}, {{Op: api.JumpZero, A: 1}, ret}, {push, push, {Op: api.Write}, ret},
		// Two ways to one place, of other depths.
		{push, {Op: api.JumpZero, A: 3}, push, nop, ret},
		{push, push, {Op: api.JumpZero, A: 0}, {Op: api.Write}, ret},
		{push, push, {Op: api.Await, A: 0, B: 0}, {Op: api.Write}, ret},
		{push, {Op: api.Jump, A: 0}}, {push, {Op: api.Await, A: 0, B: 0}, {Op: api.Write}, ret}, {push, {Op: api.JumpZero, A: 0}, {Op: api.Write}, ret},
	}
	for _, l := range wrong {
		check(t, "depth", body(l...), 0, api.VDepth)
	}
	right := [][]api.Instr{
		{push, push, {Op: api.Call, A: 1}, ret}, {push, push, {Op: api.Fork, A: 0}, {Op: api.Join}, ret}, {{Op: api.Jump, A: 0}}, {push, {Op: api.Await, A: 0, B: 0}, ret},
		{{Op: api.Jump, A: 3}, {Op: api.Add}, {Op: api.Write}, ret}, {push, {Op: api.LoadAt, A: 0}, {Op: api.Write}, ret}, {push, {Op: api.JumpZero, A: 0}, ret}, {push, {Op: api.Await, A: 0, B: 2}, ret}, {push, {Op: api.JumpZero, A: 2}, ret},
	}
	for _, l := range right {
		check(t, "depth", body(l...), 0, api.OK)
	}
	p := base()
	p.Code[6] = api.Instr{Op: api.Push}
	check(t, "the second one's depths", p, 1, api.VDepth)
	p = base()
	p.Code[8], p.Code[9] = api.Instr{Op: api.Ret}, api.Instr{Op: api.Ret}
	p.Code = append(p.Code[:9], api.Instr{Op: api.Write}, api.Instr{Op: api.Ret})
	check(t, "the third one's depths", p, 2, api.VDepth)
	check(t, "example", api.Program{Code: []api.Instr{{Op: api.Add}, {Op: api.Ret}}, Procs: []api.Entry{{}}, Vectors: [][]int{{}}}, 0, api.VDepth)
}

// P7.2: the depths themselves.
func TestDepthsTold(t *testing.T) {
	for proc, want := range [][]int{{0, 1, 2, 0}, {0, 1, 0, 0, 0}, {0}} {
		if l, ok := Depths(base(), proc); !ok || !slices.Equal(l, want) {
			t.Errorf("%d: %v, %v", proc, l, ok)
		}
	}
	for _, proc := range []int{api.Least, -1, 3, api.Most} {
		if l, ok := Depths(base(), proc); ok || l != nil {
			t.Errorf("%d: %v", proc, l)
		}
	}
	p := body(api.Instr{Op: api.Push}, api.Instr{Op: api.Jump, A: 3}, api.Instr{Op: api.Nop}, api.Instr{Op: api.Write}, api.Instr{Op: api.Ret}, api.Instr{Op: api.Nop})
	p.Code[5] = api.Instr{Op: api.Ret}
	if l, ok := Depths(p, 0); !ok || !slices.Equal(l, []int{0, 1, -1, 1, 0, -1}) {
		t.Error(l, ok)
	}
}

// P7.1 (rule 1): the longest ways end.
func TestLongWays(t *testing.T) {
	p := api.Program{Procs: []api.Entry{{}}, Vectors: [][]int{{}}}
	for range api.MaxInstrs / 2 {
		p.Code = append(p.Code, api.Instr{Op: api.Push})
	}
	for range api.MaxInstrs/2 - 1 {
		p.Code = append(p.Code, api.Instr{Op: api.Add})
	}
	p.Code = append(p.Code, api.Instr{Op: api.Jump, A: api.MaxInstrs - 1})
	check(t, "long", p, 0, api.OK)
	if l, ok := Depths(p, 0); !ok || slices.Max(l) != api.MaxInstrs/2 {
		t.Error("long:", ok)
	}
}
