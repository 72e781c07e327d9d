package pretty

import (
	"strconv"
	"strings"
	"testing"

	"signalbox/api"
	"signalbox/expr"
	"signalbox/parse"
	"signalbox/token"
	"signalbox/tree"
)

func read(t *testing.T, src string) api.Expr {
	t.Helper()
	l, f := token.All([]byte(src))
	x, n, g := expr.Parse(l, 0, 1)
	if f.Code != api.OK || g.Code != api.OK || n != len(l)-1 {
		t.Fatalf("%q: %v, %v, %d", src, f, g, n)
	}
	return x
}

// P25.1: expressions that are written as they stand here.
func TestExprAsItIs(t *testing.T) {
	for _, src := range []string{
		"12", "true", "false", "ab", "a[1 + 2]", "a[not b]", "-1", "--1", "-a[1]", "-(a + b)", "-(a * b)", "-(not a)", "not a", "not not a", "not a = b", "not (a and b)", "not (a or b)",
		"1 + 2 + 3", "1 + (2 + 3)", "1 - 2 - 3", "1 - (2 - 3)", "1 + 2 * 3", "(1 + 2) * 3", "1 * 2 * 3", "1 * (2 * 3)", "1 * (2 + 3)", "8 / 4 % 3", "8 / (4 % 3)", "-1 * 2", "1 * -2", "1 - -2", "-(-1 * 2)",
		"a < b", "a + 1 < b * 2", "(a < b) < c", "a < (b < c)", "(a = b) = (c = d)", "(not a) = b", "a = (not b)", "(a and b) = c", "a and b and c", "a and (b and c)", "a or b or c", "a or (b or c)", "a or b and c",
		"(a or b) and c", "a and (b or c)", "a and not b", "not a and b", "(a or b) and (c or d)", "(a and b) + 1", "1 + (a and b)", "1 + (not a)", "1 * (not a)", "(not a) * 1", "(a < b) + 1", "1 + (a < b)", "a and b < c", "not (a and b) or c",
		"a <> b", "a <= b", "a > b", "a >= b", "a = b",
	} {
		if got := Expr(read(t, src)); got != src {
			t.Errorf("%q is written as %q", src, got)
		}
	}
}

// P25.1: parentheses that need not stand there are no part of it.
func TestExprWithoutNeed(t *testing.T) {
	for src, want := range map[string]string{
		"((1))": "1", "(1 * 2) + 3": "1 * 2 + 3", "(1 + 2) + 3": "1 + 2 + 3", "-(1)": "-1", "-(-1)": "--1", "not (a = b)": "not a = b", "(a and b) or c": "a and b or c", "a or (b and c)": "a or b and c", "(1 + 2) < (3 + 4)": "1 + 2 < 3 + 4",
		"(-1) * (-2)": "-1 * -2", "a and (not b)": "a and not b", "(not a) and b": "not a and b", "a[(1)]": "a[1]", "1-2": "1 - 2", "not  (not a)": "not not a", "007": "7", "1 - (2)": "1 - 2",
	} {
		if got := Expr(read(t, src)); got != want {
			t.Errorf("%q is written as %q; want %q", src, got, want)
		}
	}
}

const full = `program p;
resource r 3;
semaphore s 0;
shared v;
shared w[64];
var x;
var y[2];
procedure q();
begin
  skip
end;
procedure f(a, b);
  var c;
  var d;
begin
  c := a + b;
  write c
end;
claims r 2, t 1;
begin
  x := 1;
  y[x + 1] := -x;
  f(1, (x + 2) * 3);
  q();
  P(s);
  V(s);
  request r 1, t 2;
  release r 1;
  read x;
  read y[x];
  write x < 2 and true;
  if x = 1 then
    skip
  fi;
  if x = 1 then
    skip;
    while not false do
      skip
    od
  else
    region v do
      skip
    od;
    region v when v > 0 do
      v := v - 1
    od
  fi;
  cobegin
    f(1, 2) claims r 1, t 1 //
    q() //
    q() claims r 3
  coend;
  cobegin
    q()
  coend
end.
`

// P25.2: the whole, line by line.
func TestText(t *testing.T) {
	s, f := parse.Parse([]byte(full))
	if f.Code != api.OK {
		t.Fatal(f)
	}
	if got := Text(s); got != full {
		t.Errorf("got\n%s", got)
	}
	least := "program p;\nbegin\n  skip\nend.\n"
	s, _ = parse.Parse([]byte("program p;begin{}skip end."))
	if got := Text(s); got != least {
		t.Errorf("got\n%s", got)
	}
}

// gen makes sources of any kind.
type gen struct {
	seed  uint32
	depth int
}

func (g *gen) below(n int) int {
	g.seed = g.seed*1664525 + 1013904223
	return int(g.seed>>8) % n
}

func (g *gen) name() string {
	return string(rune('a' + g.below(26)))
}

func (g *gen) expr(depth int) api.Expr {
	kind := 1 + g.below(6)
	if depth == 0 {
		kind = 1 + g.below(3)
	}
	switch kind {
	case api.XNum:
		return api.Expr{Kind: kind, Num: g.below(100)}
	case api.XBool:
		return api.Expr{Kind: kind, Num: g.below(2)}
	case api.XName:
		return api.Expr{Kind: kind, Name: g.name()}
	case api.XElem:
		return api.Expr{Kind: kind, Name: g.name(), Sub: []api.Expr{g.expr(depth - 1)}}
	case api.XUn:
		return api.Expr{Kind: kind, Op: []int{api.Neg, api.Not}[g.below(2)], Sub: []api.Expr{g.expr(depth - 1)}}
	}
	op := []int{api.Or, api.And, api.Eq, api.Ne, api.Lt, api.Le, api.Gt, api.Ge, api.Add, api.Sub, api.Mul, api.Div, api.Mod}[g.below(13)]
	return api.Expr{Kind: kind, Op: op, Sub: []api.Expr{g.expr(depth - 1), g.expr(depth - 1)}}
}

func (g *gen) exprs(most int) []api.Expr {
	var l []api.Expr
	for range g.below(most + 1) {
		l = append(l, g.expr(2))
	}
	return l
}

func (g *gen) items() []api.Item {
	var l []api.Item
	for range 1 + g.below(3) {
		l = append(l, api.Item{Name: g.name(), N: g.below(20)})
	}
	return l
}

func (g *gen) stmts(depth int) []api.Stmt {
	var l []api.Stmt
	for range 1 + g.below(3) {
		l = append(l, g.stmt(depth))
	}
	return l
}

func (g *gen) stmt(depth int) api.Stmt {
	s := api.Stmt{Kind: 1 + g.below(15), Name: g.name()}
	for depth == 0 && (s.Kind == api.SIf || s.Kind == api.SWhile || s.Kind == api.SRegion) {
		s.Kind = 1 + g.below(15)
	}
	switch s.Kind {
	case api.SSkip:
		s.Name = ""
	case api.SSet, api.SGetElem:
		s.E = []api.Expr{g.expr(4)}
	case api.SSetElem:
		s.E = []api.Expr{g.expr(2), g.expr(2)}
	case api.SCall:
		s.E = g.exprs(3)
	case api.SIf:
		s.Name, s.E, s.Body = "", []api.Expr{g.expr(2)}, g.stmts(depth-1)
		if g.below(2) == 0 {
			s.Else = g.stmts(depth - 1)
		}
	case api.SWhile:
		s.Name, s.E, s.Body = "", []api.Expr{g.expr(2)}, g.stmts(depth-1)
	case api.SRegion:
		s.Body = g.stmts(depth - 1)
		if g.below(2) == 0 {
			s.E = []api.Expr{g.expr(2)}
		}
	case api.SFork:
		s.Name = ""
		for range 1 + g.below(3) {
			b := api.Branch{Name: g.name(), Args: g.exprs(2)}
			if g.below(2) == 0 {
				b.Claims = g.items()
			}
			s.Branches = append(s.Branches, b)
		}
	case api.SRequest, api.SRelease:
		s.Name, s.Items = "", g.items()
	case api.SWrite:
		s.Name, s.E = "", []api.Expr{g.expr(4)}
	}
	return s
}

func (g *gen) source() api.Source {
	s := api.Source{Name: g.name(), Body: g.stmts(2)}
	for range g.below(4) {
		s.Decls = append(s.Decls, api.Decl{Kind: 1 + g.below(4), Name: g.name(), N: g.below(65)})
	}
	for range g.below(3) {
		p := api.Proc{Name: g.name(), Body: g.stmts(1)}
		for i := range g.below(3) {
			p.Params = append(p.Params, api.Ident{Name: "p" + strconv.Itoa(i)})
			p.Vars = append(p.Vars, api.Ident{Name: "v" + strconv.Itoa(i)})
		}
		s.Procs = append(s.Procs, p)
	}
	if g.below(2) == 0 {
		s.Claims = g.items()
	}
	return s
}

// P25.3: the text is read as the same, and is its own text.
func TestReadAsTheSame(t *testing.T) {
	g, long := &gen{seed: 9}, 0
	for range 3000 {
		s := g.source()
		text := Text(s)
		got, f := parse.Parse([]byte(text))
		if len(text) > api.MaxSource {
			long++
			continue
		}
		if f.Code != api.OK || !tree.Same(got, s) || Text(got) != text {
			t.Fatalf("%v:\n%s", f, text)
		}
		x := g.expr(6)
		if l, f := token.All([]byte(Expr(x))); f.Code == api.OK {
			if y, _, f := expr.Parse(l, 0, -100); f.Code != api.OK || !tree.SameExpr(x, y) {
				t.Fatalf("%v: %s", f, Expr(x))
			}
		}
	}
	if long > 300 {
		t.Error("too many that are too long:", long)
	}
}

// P25.3: the deepest sources are read again.
func TestDeepest(t *testing.T) {
	src := "program p; begin " + strings.Repeat("while a do ", 23) + "x := ((1)) + 2" + strings.Repeat(" od", 23) + " end."
	if _, f := parse.Parse([]byte(src)); f.Code != api.EDeep {
		t.Fatal(f)
	}
	src = strings.Replace(src, "((1))", "1", 1)
	s, _ := parse.Parse([]byte(src))
	if got, f := parse.Parse([]byte(Text(s))); f.Code != api.OK || !tree.Same(got, s) {
		t.Error(f)
	}
	s, f := parse.Parse([]byte("program p; begin write " + strings.Repeat("-(", 11) + "1 + 2" + strings.Repeat(")", 11) + " end."))
	if f.Code != api.OK {
		t.Fatal(f)
	}
	if got, f := parse.Parse([]byte(Text(s))); f.Code != api.OK || !tree.Same(got, s) {
		t.Error(f)
	}
}

// P25.1, P25.2 (rule 10): of other trees the calls end.
func TestAnything(t *testing.T) {
	for kind := -1; kind < 9; kind++ {
		for op := -1; op < 40; op++ {
			for n := range 3 {
				Expr(api.Expr{Kind: kind, Op: op, Sub: make([]api.Expr, n)})
			}
		}
	}
	for kind := -1; kind < 18; kind++ {
		for n := range 3 {
			s := api.Stmt{Kind: kind, E: make([]api.Expr, n), Body: make([]api.Stmt, n), Else: make([]api.Stmt, n), Branches: make([]api.Branch, n), Items: make([]api.Item, n)}
			Text(api.Source{Decls: []api.Decl{{Kind: kind}}, Body: []api.Stmt{s}, Procs: []api.Proc{{Body: []api.Stmt{s, s}}}})
		}
	}
	if Expr(api.Expr{}) != "" {
		t.Error("no expression has a text")
	}
}
