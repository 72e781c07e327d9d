package scope

import (
	"fmt"
	"slices"
	"strconv"
	"strings"
	"testing"

	"signalbox/api"
	"signalbox/parse"
)

// build builds the table of a source: what stands ahead of its statements.
func build(t *testing.T, head string) (*Table, api.Fault) {
	t.Helper()
	s, f := parse.Parse([]byte(head + " begin skip end."))
	if f.Code != api.OK {
		t.Fatalf("%q: %v", head, f)
	}
	return Build(s)
}

func built(t *testing.T, head string) *Table {
	t.Helper()
	table, f := build(t, head)
	if f != (api.Fault{}) || table == nil {
		t.Fatalf("%q: %v", head, f)
	}
	return table
}

// fault: head has `|` where the fault is.
func fault(t *testing.T, head string, c api.Code) {
	t.Helper()
	at := strings.IndexByte(head, '|')
	if table, f := build(t, head[:at]+head[at+1:]); table != nil || f != (api.Fault{Code: c, At: at}) {
		t.Errorf("%q: %v; want %d at %d", head, f, c, at)
	}
}

// is compares what was told, as a text.
func is(t *testing.T, what string, got string, want ...any) {
	t.Helper()
	if w := fmt.Sprintln(want...); got != w {
		t.Errorf("%s: %q; want %q", what, got, w)
	}
}

func told(l ...any) string {
	return fmt.Sprintln(l...)
}

const full = "program p; resource r 3; semaphore s 0; shared v[3]; var g; resource q 1000; semaphore m 1000; shared w; var h[2]; shared u; " +
	"procedure f(a, b); var c; begin skip end; procedure k(); var v; var a; begin skip end; procedure l(); begin skip end; claims r 1;"

// P26.2: what all names mean.
func TestNames(t *testing.T) {
	a := built(t, full)
	for name, want := range map[string]Name{
		"r": {api.DClass, 0, 0}, "q": {api.DClass, 1, 0}, "s": {api.DSema, 0, 0}, "m": {api.DSema, 1, 0}, "v": {api.DShared, 0, 3}, "g": {api.DVar, 1, 0}, "w": {api.DShared, 2, 0}, "h": {api.DVar, 3, 2}, "u": {api.DShared, 4, 0},
	} {
		is(t, name, told(a.Global(name)), want, true)
	}
	for _, name := range []string{"f", "k", "p", "a", "", "R", "x"} {
		is(t, name, told(a.Global(name)), Name{}, false)
	}
	is(t, "procedures", told(a.Proc("f")), 1, true)
	is(t, "procedures", told(a.Proc("k")), 2, true)
	is(t, "procedures", told(a.Proc("l")), 3, true)
	is(t, "no procedures", told(a.Proc("r")), 0, false)
	is(t, "no procedures", told(a.Proc("p")), 0, false)
	is(t, "no procedures", told(a.Proc("")), 0, false)
	for name, want := range map[string]int{"v": 0, "w": 1, "u": 2} {
		is(t, "region "+name, told(a.Region(name)), want, true)
	}
	for _, name := range []string{"g", "r", "f", "x"} {
		is(t, "region "+name, told(a.Region(name)), 0, false)
	}
	is(t, "lists", told(a.Cells(), a.Semas(), a.Totals(), a.Regions()), []api.Cell{{Base: 0, Size: 3}, {Base: 3}, {Base: 4}, {Base: 5, Size: 2}, {Base: 7}}, []int{0, 1000}, []int{3, 1000}, 3)
}

// P26.2: locals, by procedure.
func TestLocals(t *testing.T) {
	a := built(t, full)
	for i, name := range []string{"a", "b", "c"} {
		is(t, name, told(a.Local(1, name)), i, true)
	}
	is(t, "v", told(a.Local(2, "v")), 0, true)
	is(t, "a", told(a.Local(2, "a")), 1, true)
	for _, r := range []struct {
		proc int
		name string
	}{{1, "v"}, {2, "b"}, {3, "a"}, {0, "a"}, {4, "a"}, {-1, "a"}, {api.Least, "a"}, {api.Most, "a"}, {1, ""}, {1, "f"}} {
		is(t, "no local", told(a.Local(r.proc, r.name)), 0, false)
	}
	for proc, want := range [][2]int{{0, 0}, {2, 3}, {0, 2}, {0, 0}, {0, 0}} {
		is(t, "how many", told(a.Params(proc), a.Locals(proc)), want[0], want[1])
	}
	is(t, "of none", told(a.Params(-1), a.Locals(-1), a.Params(api.Most), a.Locals(api.Least)), 0, 0, 0, 0)
}

// P26.1: names that are there already.
func TestTwice(t *testing.T) {
	for _, head := range []string{
		"program p; var a; var |a;", "program p; resource a 1; semaphore |a 1;", "program p; shared a; var b; resource |a 1;", "program p; var f; procedure |f(); begin skip end;",
		"program p; procedure f(); begin skip end; procedure |f(); begin skip end;", "program p; procedure f(a, |a); begin skip end;", "program p; procedure f(a); var |a; begin skip end;", "program p; procedure f(); var a; var |a; begin skip end;",
		"program p; procedure f(a, b, c, d, |a); begin skip end;",
	} {
		fault(t, head, api.ETwice)
	}
	// The program's own name is none; a local may hide what stands outside.
	built(t, "program p; var p; procedure f(p, f); var g; begin skip end; procedure g(f); begin skip end;")
	built(t, "program p; procedure p(p); begin skip end;")
}

// many are declarations of n things with other names; the last one's name has `|`, if that is asked.
func many(head, tail string, n int, mark bool) string {
	var b strings.Builder
	for i := range n {
		b.WriteString(head)
		if mark && i == n-1 {
			b.WriteString("|")
		}
		b.WriteString("n" + head[:1] + strconv.Itoa(i) + tail)
	}
	return b.String()
}

// P26.1: how many there may be.
func TestMany(t *testing.T) {
	for _, r := range []struct {
		head, tail string
		most       int
	}{{"resource ", " 1; ", 6}, {"semaphore ", " 1; ", 8}, {"shared ", "; ", 16}, {"var ", "[2]; ", 16}, {"procedure ", "(); begin skip end; ", 12}} {
		built(t, "program p; "+many(r.head, r.tail, r.most, false))
		fault(t, "program p; "+many(r.head, r.tail, r.most+1, true), api.EMany)
	}
	fault(t, "program p; "+many("shared ", "; ", 9, false)+many("var ", "; ", 8, true), api.EMany)
	built(t, "program p; "+many("shared ", "; ", 9, false)+many("var ", "; ", 7, false)+many("resource ", " 1; ", 6, false))
	built(t, "program p; procedure f(a, b, c, d); var e; var f; var g; var h; begin skip end;")
	built(t, "program p; procedure f(); var a; var b; var c; var d; var e; var f; var g; var h; begin skip end;")
	fault(t, "program p; procedure f(a, b, c, d, |e); begin skip end;", api.EMany)
	fault(t, "program p; procedure f(a, b, c, d); var e; var f; var g; var h; var |i; begin skip end;", api.EMany)
	fault(t, "program p; procedure f(a); var b; var c; var d; var e; var f; var g; var h; var |i; begin skip end;", api.EMany)
}

// P26.1: how many units there may be.
func TestUnits(t *testing.T) {
	for _, head := range []string{"program p; resource |r 0;", "program p; resource |r 1001;", "program p; semaphore |s 1001;", "program p; resource |r 9223372036854775807;"} {
		fault(t, head, api.EUnits)
	}
	built(t, "program p; resource r 1; resource q 1000; semaphore s 0; semaphore m 1000;")
}

// P26.1: the first that is met; of one name ETwice, EMany, EUnits.
func TestFirst(t *testing.T) {
	fault(t, "program p; resource |r 0; var a; var a;", api.EUnits)
	fault(t, "program p; var a; var |a; resource r 0;", api.ETwice)
	fault(t, "program p; var a; resource |a 0;", api.ETwice)
	fault(t, "program p; "+many("resource ", " 1; ", 6, false)+"resource |nr0 1;", api.ETwice)
	fault(t, "program p; "+many("resource ", " 1; ", 6, false)+"resource |x 0;", api.EMany)
	fault(t, "program p; procedure f(a, |a); begin skip end; procedure f(); begin skip end;", api.ETwice)
	fault(t, "program p; procedure f(); begin skip end; procedure |f(a, a); begin skip end;", api.ETwice)
	fault(t, "program p; resource |r 0; procedure f(a, a); begin skip end;", api.EUnits)
}

// P26.3: no two variables have a word in common.
func TestCells(t *testing.T) {
	is(t, "example", told(built(t, "program p; shared v[3]; var g;").Cells()), []api.Cell{{Base: 0, Size: 3}, {Base: 3}})
	end := 0
	for _, c := range built(t, "program p; var a; var b[64]; shared c; shared d[1]; var e[2]; var f; var g[64];").Cells() {
		if c.Base != end {
			t.Error(c, end)
		}
		end += max(c.Size, 1)
	}
	if l := built(t, "program p;").Cells(); len(l) != 0 {
		t.Error(l)
	}
}

// P26.2 (rules 3 and 9): new memory; a nil Table.
func TestMemoryAndNil(t *testing.T) {
	a := built(t, full)
	a.Cells()[0].Base, a.Semas()[0], a.Totals()[0] = 9, 9, 9
	if a.Cells()[0].Base != 0 || !slices.Equal(a.Semas(), []int{0, 1000}) || !slices.Equal(a.Totals(), []int{3, 1000}) {
		t.Error("lists are handed out")
	}
	for _, none := range []*Table{nil, {}} {
		is(t, "nil", told(none.Global("v")), Name{}, false)
		is(t, "nil", told(none.Proc("f")), 0, false)
		is(t, "nil", told(none.Local(1, "a")), 0, false)
		is(t, "nil", told(none.Region("v")), 0, false)
		is(t, "nil", told(none.Cells(), none.Semas(), none.Totals(), none.Regions(), none.Params(1), none.Locals(1)), []int{}, []int{}, []int{}, 0, 0, 0)
	}
}

// P26.1 (rule 10): of other sources the call ends.
func TestAnything(t *testing.T) {
	s := api.Source{Decls: []api.Decl{{Kind: 0, Name: "a"}, {Kind: 9, Name: "a"}, {Kind: api.DVar, Name: "b", N: api.Most}, {Kind: api.DVar, Name: "c", N: api.Most}, {Kind: api.DShared, N: -4}}, Procs: make([]api.Proc, 3)}
	Build(s)
}
