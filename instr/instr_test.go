package instr

import (
	"testing"

	"signalbox/api"
)

// row is a line of the document's table.
type row struct {
	op                   int
	name                 string
	operands, pops, puts int
}

func table() []row {
	return []row{
		{api.Nop, "nop", 0, 0, 0}, {api.Push, "push", 1, 0, 1}, {api.Load, "load", 1, 0, 1}, {api.Store, "store", 1, 1, 0}, {api.LoadAt, "loadat", 1, 1, 1},
		{api.StoreAt, "storeat", 1, 2, 0}, {api.Local, "local", 1, 0, 1}, {api.SetLocal, "setlocal", 1, 1, 0}, {api.Add, "add", 0, 2, 1}, {api.Sub, "sub", 0, 2, 1},
		{api.Mul, "mul", 0, 2, 1}, {api.Div, "div", 0, 2, 1}, {api.Mod, "mod", 0, 2, 1}, {api.Neg, "neg", 0, 1, 1}, {api.Eq, "eq", 0, 2, 1}, {api.Ne, "ne", 0, 2, 1},
		{api.Lt, "lt", 0, 2, 1}, {api.Le, "le", 0, 2, 1}, {api.Gt, "gt", 0, 2, 1}, {api.Ge, "ge", 0, 2, 1}, {api.And, "and", 0, 2, 1}, {api.Or, "or", 0, 2, 1},
		{api.Not, "not", 0, 1, 1}, {api.Jump, "jump", 1, 0, 0}, {api.JumpZero, "jumpzero", 1, 1, 0}, {api.Call, "call", 1, 0, 0}, {api.Ret, "ret", 0, 0, 0},
		{api.Fork, "fork", 1, 0, 0}, {api.Join, "join", 0, 0, 0}, {api.P, "p", 1, 0, 0}, {api.V, "v", 1, 0, 0}, {api.Enter, "enter", 1, 0, 0}, {api.Await, "await", 2, 1, 0},
		{api.Leave, "leave", 1, 0, 0}, {api.Request, "request", 1, 0, 0}, {api.Release, "release", 1, 0, 0}, {api.Read, "read", 0, 0, 1}, {api.Write, "write", 0, 1, 0},
	}
}

// P5.1: each instruction's row.
func TestTable(t *testing.T) {
	if len(table()) != 38 {
		t.Fatal("not all instructions are looked at")
	}
	for i, r := range table() {
		if r.op != i+1 {
			t.Errorf("%s is %d", r.name, r.op)
		}
		if !Is(r.op) || Name(r.op) != r.name || Operands(r.op) != r.operands || Pops(r.op) != r.pops || Pushes(r.op) != r.puts {
			t.Errorf("%d: %v %s %d %d %d", r.op, Is(r.op), Name(r.op), Operands(r.op), Pops(r.op), Pushes(r.op))
		}
		if Op(r.name) != r.op {
			t.Errorf("Op(%s): %d", r.name, Op(r.name))
		}
	}
}

// P5.1: all others.
func TestOthers(t *testing.T) {
	for _, op := range []int{api.Least, -1, 0, 39, 64, api.Most} {
		if Is(op) || Name(op) != "" || Operands(op) != 0 || Pops(op) != 0 || Pushes(op) != 0 || Text(api.Instr{Op: op, A: 1, B: 2}) != "" {
			t.Errorf("%d is something", op)
		}
	}
	for _, name := range []string{"", "Nop", "nop ", " nop", "pus", "pushes", "0"} {
		if Op(name) != 0 {
			t.Errorf("Op(%q): %d", name, Op(name))
		}
	}
}

// P5.2, P5.3: texts, and that they are read again.
func TestTexts(t *testing.T) {
	for _, r := range []struct {
		i    api.Instr
		text string
	}{
		{api.Instr{Op: api.Await, A: 1, B: 7}, "await 1 7"},
		{api.Instr{Op: api.Nop}, "nop"},
		{api.Instr{Op: api.Push, A: -5}, "push -5"},
		{api.Instr{Op: api.Push, A: api.Least}, "push -9223372036854775808"},
		{api.Instr{Op: api.Push, A: api.Most}, "push 9223372036854775807"},
		{api.Instr{Op: api.Await, A: api.Least, B: api.Most}, "await -9223372036854775808 9223372036854775807"},
	} {
		if Text(r.i) != r.text {
			t.Errorf("Text of %v: %q", r.i, Text(r.i))
		}
		if i, ok := Read(r.text); i != r.i || !ok {
			t.Errorf("Read(%q): %v, %v", r.text, i, ok)
		}
	}
	for _, r := range table() {
		whole := api.Instr{Op: r.op, A: 12, B: -3}
		told := whole
		if r.operands < 2 {
			told.B = 0
		}
		if r.operands < 1 {
			told.A = 0
		}
		if i, ok := Read(Text(whole)); i != told || !ok {
			t.Errorf("Read(%q): %v, %v", Text(whole), i, ok)
		}
	}
}

// P5.2: texts that are none.
func TestReadRefuses(t *testing.T) {
	for _, s := range []string{
		"", " ", "nop ", " nop", "nop 0", "push", "push ", "push  1", "push 1 ", "push 1 2", "push +1", "push 01", "push -0", "push 0x1", "push 1_0", "push a", "push --1", "await 1",
		"await 1 2 3", "await 1  2", "Push 1", "push\t1", "push 1\n", "push 9223372036854775808", "push -9223372036854775809", "push 99999999999999999999", "nothing", "push 1.", "push ١",
	} {
		if i, ok := Read(s); ok || i != (api.Instr{}) {
			t.Errorf("Read(%q): %v, %v", s, i, ok)
		}
	}
}
