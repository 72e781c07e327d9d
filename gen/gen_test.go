package gen

import (
	"slices"
	"strings"
	"testing"

	"signalbox/api"
	"signalbox/code"
	"signalbox/instr"
	"signalbox/parse"
	"signalbox/scope"
	"signalbox/typing"
	"signalbox/verify"
)

const head = "program p; resource r 3; resource q 4; semaphore s 2; semaphore m 0; shared v; var x; shared w[2]; var a[3]; procedure f(); begin skip end; procedure g(b, c); var d; var x; begin "

// program makes the program of a source in which procedure g and the program's own body have these statements.
func program(t *testing.T, inner, body string) api.Program {
	t.Helper()
	src := head + inner + " end; claims q 2; begin " + body + " end."
	s, f := parse.Parse([]byte(src))
	if f.Code != api.OK {
		t.Fatalf("%q: %v", src, f)
	}
	table, f := scope.Build(s)
	if f.Code != api.OK {
		t.Fatalf("%q: %v", src, f)
	}
	if f := typing.Check(s, table); f.Code != api.OK {
		t.Fatalf("%q: %v", src, f)
	}
	p := Program(s, table)
	if at, c := verify.Check(p); c != api.OK || !code.May(p) {
		t.Errorf("%q: %d at %d", src, c, at)
	}
	return p
}

// texts are instructions as a text.
func texts(l []api.Instr) string {
	var out []string
	for _, i := range l {
		out = append(out, instr.Text(i))
	}
	return strings.Join(out, ", ")
}

// body: the program's own body has that code, ret behind it.
func body(t *testing.T, stmts, want string) {
	t.Helper()
	p := program(t, "skip", stmts)
	if got := texts(p.Code[:p.Procs[1].At]); got != want+", ret" {
		t.Errorf("%s:\n got %s\nwant %s, ret", stmts, got, want)
	}
}

// inner: procedure g has that code, ret behind it; it begins at 4.
func inner(t *testing.T, stmts, want string) {
	t.Helper()
	p := program(t, stmts, "skip")
	if got := texts(p.Code[p.Procs[2].At:]); got != want+", ret" || p.Procs[2].At != 4 {
		t.Errorf("%s:\n got %s\nwant %s, ret", stmts, got, want)
	}
}

// P30.1: tables.
func TestTables(t *testing.T) {
	p := program(t, "write 1", "skip; skip")
	want := api.Program{
		Code:    []api.Instr{{Op: api.Nop}, {Op: api.Nop}, {Op: api.Ret}, {Op: api.Nop}, {Op: api.Ret}, {Op: api.Push, A: 1}, {Op: api.Write}, {Op: api.Ret}},
		Procs:   []api.Entry{{}, {At: 3}, {At: 5, Params: 2, Locals: 4}},
		Vars:    []api.Cell{{Base: 0}, {Base: 1}, {Base: 2, Size: 2}, {Base: 4, Size: 3}},
		Regions: 2,
		Semas:   []int{2, 0},
		Totals:  []int{3, 4},
		Vectors: [][]int{{0, 2}},
	}
	if !code.Same(p, want) {
		t.Errorf("%+v", p)
	}
	s, _ := parse.Parse([]byte("program p; begin skip end."))
	table, _ := scope.Build(s)
	want = api.Program{Code: []api.Instr{{Op: api.Nop}, {Op: api.Ret}}, Procs: []api.Entry{{}}, Vectors: [][]int{{}}}
	if p := Program(s, table); !code.Same(p, want) {
		t.Errorf("%+v", p)
	}
}

// P30.1: vectors and forks, in the order of Code.
func TestVectorsAndForks(t *testing.T) {
	p := program(t, "request q 4, r 1; cobegin f() claims r 3 // g(1, 2) coend", "request r 1; if true then release r 2 else cobegin g(1, 2) claims q 1 coend fi; request r 1; cobegin f() coend")
	if want := [][]int{{0, 2}, {1, 0}, {2, 0}, {0, 1}, {1, 0}, {0, 0}, {1, 4}, {3, 0}, {0, 0}}; !slices.EqualFunc(p.Vectors, want, slices.Equal) {
		t.Error(p.Vectors)
	}
	if want := []api.Spawn{{Proc: 2, Claim: 3}, {Proc: 1, Claim: 5}, {Proc: 1, Claim: 7}, {Proc: 2, Claim: 8}}; !slices.Equal(p.Forks, want) || p.Claim != 0 {
		t.Error(p.Forks, p.Claim)
	}
	want := "request 1, push 1, jumpzero 5, release 2, jump 9, push 1, push 2, fork 0, join, request 4, fork 1, join, ret, nop, ret, request 6, fork 2, push 1, push 2, fork 3, join, ret"
	if got := texts(p.Code); got != want {
		t.Errorf("got %s", got)
	}
}

// P30.2: expressions.
func TestExpressions(t *testing.T) {
	body(t, "write 1 + 2", "push 1, push 2, add, write")
	body(t, "write -x", "load 1, neg, write")
	body(t, "write a[x] * a[a[0]]", "load 1, loadat 3, push 0, loadat 3, loadat 3, mul, write")
	body(t, "write 1 - 2 / 3 % 4", "push 1, push 2, push 3, div, push 4, mod, sub, write")
	body(t, "if not (true and false or 1 < 2) then skip fi", "push 1, push 0, and, push 1, push 2, lt, or, not, jumpzero 10, nop")
	body(t, "if 1 = 2 then skip fi", "push 1, push 2, eq, jumpzero 5, nop")
	for sign, op := range map[string]string{"<>": "ne", "<=": "le", ">": "gt", ">=": "ge"} {
		body(t, "if 1 "+sign+" 2 then skip fi", "push 1, push 2, "+op+", jumpzero 5, nop")
	}
	body(t, "region v do write v od; region w do write w[1] od", "enter 0, load 0, write, leave 0, enter 1, push 1, loadat 2, write, leave 1")
	inner(t, "write b + c + d + x + a[x]", "local 0, local 1, add, local 2, add, local 3, add, local 3, loadat 3, add, write")
}

// P30.3: statements.
func TestStatements(t *testing.T) {
	body(t, "skip", "nop")
	body(t, "x := 5", "push 5, store 1")
	body(t, "a[1] := 5", "push 1, push 5, storeat 3")
	body(t, "if true then skip fi; skip", "push 1, jumpzero 3, nop, nop")
	body(t, "if true then skip else x := 1 fi; skip", "push 1, jumpzero 4, nop, jump 6, push 1, store 1, nop")
	body(t, "while x < 3 do x := 1 od; skip", "load 1, push 3, lt, jumpzero 7, push 1, store 1, jump 0, nop")
	body(t, "skip; while true do skip od", "nop, push 1, jumpzero 5, nop, jump 1")
	body(t, "f(); g(1, x)", "call 1, push 1, load 1, call 2")
	body(t, "cobegin f() // g(x, 2) coend", "fork 0, load 1, push 2, fork 1, join")
	body(t, "P(s); P(m); V(s); V(m)", "p 0, p 1, v 0, v 1")
	body(t, "region w do skip od", "enter 1, nop, leave 1")
	body(t, "skip; region v when v > 0 do skip od", "nop, enter 0, load 0, push 0, gt, await 0 2, nop, leave 0")
	body(t, "request r 1; release r 1", "request 1, release 2")
	body(t, "read x; read a[x]; write x", "read, store 1, load 1, read, storeat 3, load 1, write")
	inner(t, "b := 1; x := 2; read d; read a[b]; a[c] := b", "push 1, setlocal 0, push 2, setlocal 3, read, setlocal 2, local 0, read, storeat 3, local 1, local 0, storeat 3")
	inner(t, "while b > 0 do b := b - 1 od", "local 0, push 0, gt, jumpzero 13, local 0, push 1, sub, setlocal 0, jump 4")
	inner(t, "region v when v = b do skip od", "enter 0, load 0, local 0, eq, await 0 5, nop, leave 0")
	inner(t, "g(b, 1); cobegin g(b, c) coend", "local 0, push 1, call 2, local 0, local 1, fork 0, join")
}

// P30.3: statements within others.
func TestNested(t *testing.T) {
	body(t, "while true do if true then skip else skip fi od", "push 1, jumpzero 8, push 1, jumpzero 6, nop, jump 7, nop, jump 0")
	body(t, "if true then if false then skip fi else while true do skip od fi", "push 1, jumpzero 6, push 0, jumpzero 5, nop, jump 10, push 1, jumpzero 10, nop, jump 6")
	body(t, "while true do while false do skip od od; skip", "push 1, jumpzero 7, push 0, jumpzero 6, nop, jump 2, jump 0, nop")
}

// P30.4: the longest sources make programs that may be run.
func TestLongest(t *testing.T) {
	fill := func(begin, item, end string) string {
		n := (api.MaxSource - len(begin) - len(end)) / len(item)
		return begin + strings.Repeat(item, n) + end
	}
	for _, src := range []string{
		fill("program p;var x;begin skip", ";x:=1", " end."), fill("program p;var x;begin x:=1", "+1", " end."), fill("program p;begin write -1", "+-1", " end."), fill("program p;procedure f();begin skip end;begin skip", ";f()", " end."),
		fill("program p;procedure f();begin skip end;begin skip", ";cobegin f()//f()//f()//f()//f()//f()//f()//f()coend", " end."), fill("program p;resource r 1;begin skip", ";request r 1", " end."), fill("program p;var x;begin skip", ";read x", " end."),
		fill("program p;begin if not true", " or not true", " then skip fi end."), fill("program p;var x;begin if 1=-1", " and 1=1", " then skip fi end."),
	} {
		s, f := parse.Parse([]byte(src))
		table, g := scope.Build(s)
		if f.Code != api.OK || g.Code != api.OK || typing.Check(s, table).Code != api.OK {
			t.Fatal(src[:60], f, g, typing.Check(s, table))
		}
		p := Program(s, table)
		if at, c := verify.Check(p); c != api.OK || !code.May(p) {
			t.Error(src[:60], at, c, len(p.Code), len(p.Vectors))
		}
	}
}

// P30.1 (rule 10): of other sources and tables the call ends.
func TestAnything(t *testing.T) {
	s, _ := parse.Parse([]byte(head + "skip end; claims q 2; begin request r 1; region v when v > 0 do x := a[1] od end."))
	other, _ := scope.Build(api.Source{})
	table, _ := scope.Build(s)
	Program(s, nil)
	Program(s, other)
	for kind := -1; kind < 18; kind++ {
		for n := range 3 {
			x := api.Expr{Kind: kind, Name: "z", Sub: make([]api.Expr, n)}
			stmt := api.Stmt{Kind: kind, Name: "z", E: []api.Expr{x, x}[:n], Body: make([]api.Stmt, n), Else: make([]api.Stmt, n/2), Branches: make([]api.Branch, n), Items: make([]api.Item, n)}
			Program(api.Source{Body: []api.Stmt{stmt}, Procs: []api.Proc{{Body: []api.Stmt{stmt}}}}, table)
		}
	}
}
