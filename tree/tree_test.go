package tree

import (
	"slices"
	"testing"

	"signalbox/api"
)

func num(n int) api.Expr {
	return api.Expr{Kind: api.XNum, At: n, Num: n}
}

func bin(op int, a, b api.Expr) api.Expr {
	return api.Expr{Kind: api.XBin, Op: op, At: 3, Sub: []api.Expr{a, b}}
}

func call(name string, args ...api.Expr) api.Stmt {
	return api.Stmt{Kind: api.SCall, Name: name, E: args}
}

// full is a source in which each list has something.
func full() api.Source {
	return api.Source{
		Name:  "p",
		Decls: []api.Decl{{Kind: api.DClass, At: 1, Name: "r", N: 2}, {Kind: api.DVar, At: 2, Name: "x"}},
		Procs: []api.Proc{{At: 5, Name: "q", Params: []api.Ident{{At: 6, Name: "a"}}, Vars: []api.Ident{{At: 7, Name: "b"}}, Body: []api.Stmt{
			{Kind: api.SIf, At: 9, E: []api.Expr{{Kind: api.XBool, Num: 1}}, Body: []api.Stmt{call("q", num(1))}, Else: []api.Stmt{{Kind: api.SSkip}}},
		}}},
		Claims: []api.Item{{At: 20, Name: "r", N: 1}},
		Body: []api.Stmt{
			{Kind: api.SFork, At: 30, Branches: []api.Branch{{At: 31, Name: "q", Args: []api.Expr{bin(api.Add, num(1), num(2))}, Claims: []api.Item{{At: 33, Name: "r", N: 2}}}}},
			{Kind: api.SRequest, At: 40, Items: []api.Item{{At: 41, Name: "r", N: 1}}},
			{Kind: api.SSetElem, At: 50, Name: "x", E: []api.Expr{{Kind: api.XElem, Name: "y", Sub: []api.Expr{num(4)}}, num(5)}},
		},
	}
}

// P22.1: places do not count.
func TestPlacesDoNotCount(t *testing.T) {
	s := full()
	s.Decls[0].At, s.Procs[0].At, s.Procs[0].Params[0].At, s.Procs[0].Vars[0].At, s.Procs[0].Body[0].At, s.Procs[0].Body[0].E[0].At = 91, 92, 93, 94, 95, 96
	s.Claims[0].At, s.Body[0].At, s.Body[0].Branches[0].At, s.Body[0].Branches[0].Args[0].At, s.Body[0].Branches[0].Claims[0].At, s.Body[1].Items[0].At = 91, 92, 93, 94, 95, 96
	s.Body[0].Branches[0].Args[0].Sub[0].At = 97
	if !Same(s, full()) || !SameStmts(s.Body, full().Body) || !SameExpr(s.Body[2].E[0], full().Body[2].E[0]) {
		t.Error("places count")
	}
	if !Same(api.Source{}, api.Source{Decls: []api.Decl{}, Body: []api.Stmt{}}) || !SameStmts(nil, []api.Stmt{}) || !SameExpr(api.Expr{}, api.Expr{Sub: []api.Expr{}}) {
		t.Error("nil is not an empty list")
	}
}

// P22.1: everything else counts.
func TestAllElseCounts(t *testing.T) {
	for i, turn := range []func(s *api.Source){
		func(s *api.Source) { s.Name = "x" }, func(s *api.Source) { s.Decls[0].Kind = 2 }, func(s *api.Source) { s.Decls[1].Name = "z" }, func(s *api.Source) { s.Decls[1].N = 1 },
		func(s *api.Source) { s.Decls = s.Decls[:1] }, func(s *api.Source) { s.Procs[0].Name = "z" }, func(s *api.Source) { s.Procs[0].Params[0].Name = "z" }, func(s *api.Source) { s.Procs[0].Params = nil },
		func(s *api.Source) { s.Procs[0].Vars[0].Name = "z" }, func(s *api.Source) { s.Procs[0].Vars = nil }, func(s *api.Source) { s.Procs[0].Body = nil }, func(s *api.Source) { s.Procs = nil },
		func(s *api.Source) { s.Procs[0].Body[0].Kind = api.SWhile }, func(s *api.Source) { s.Procs[0].Body[0].E[0].Num = 0 }, func(s *api.Source) { s.Procs[0].Body[0].E[0].Kind = api.XNum },
		func(s *api.Source) { s.Procs[0].Body[0].Body[0].Name = "z" }, func(s *api.Source) { s.Procs[0].Body[0].Body[0].E = nil }, func(s *api.Source) { s.Procs[0].Body[0].Body = nil },
		func(s *api.Source) { s.Procs[0].Body[0].Else[0].Kind = api.SCall }, func(s *api.Source) { s.Procs[0].Body[0].Else = nil }, func(s *api.Source) { s.Claims[0].N = 2 }, func(s *api.Source) { s.Claims[0].Name = "z" },
		func(s *api.Source) { s.Claims = nil }, func(s *api.Source) { s.Body = s.Body[:2] }, func(s *api.Source) { s.Body[0].Branches[0].Name = "z" }, func(s *api.Source) { s.Body[0].Branches[0].Args[0].Op = api.Sub },
		func(s *api.Source) { s.Body[0].Branches[0].Args[0].Sub[1].Num = 3 }, func(s *api.Source) { s.Body[0].Branches[0].Args = nil }, func(s *api.Source) { s.Body[0].Branches[0].Claims[0].N = 1 },
		func(s *api.Source) { s.Body[0].Branches[0].Claims = nil }, func(s *api.Source) { s.Body[0].Branches = nil }, func(s *api.Source) { s.Body[1].Items[0].N = 2 }, func(s *api.Source) { s.Body[1].Items = nil },
		func(s *api.Source) { s.Body[2].Name = "z" }, func(s *api.Source) { s.Body[2].E[0].Name = "z" }, func(s *api.Source) { s.Body[2].E[0].Sub[0].Num = 0 }, func(s *api.Source) { s.Body[2].E[0].Sub = nil },
	} {
		s := full()
		turn(&s)
		if Same(s, full()) || Same(full(), s) {
			t.Errorf("turn %d is not seen", i)
		}
	}
}

// P22.1: how many there are.
func TestCount(t *testing.T) {
	if n := Count(api.Source{}); n != 0 {
		t.Error(n)
	}
	if n := Count(full()); n != 3+2+3+3+3 {
		t.Error(n)
	}
	if n := Count(api.Source{Body: []api.Stmt{{Kind: api.SSkip}}}); n != 1 {
		t.Error(n)
	}
}

// calls is a source of procedures, each of which calls those behind its name.
func calls(l ...string) api.Source {
	var s api.Source
	for _, names := range l {
		p := api.Proc{Name: names[:1]}
		for _, name := range names[1:] {
			p.Body = append(p.Body, call(string(name)))
		}
		s.Procs = append(s.Procs, p)
	}
	return s
}

// P22.2: which names are called, in order, each once.
func TestCalls(t *testing.T) {
	l := []api.Stmt{
		call("b"),
		{Kind: api.SIf, Body: []api.Stmt{call("d"), {Kind: api.SWhile, Body: []api.Stmt{call("a")}}}, Else: []api.Stmt{call("c"), call("b")}},
		{Kind: api.SFork, Branches: []api.Branch{{Name: "z"}}},
		{Kind: api.SP, Name: "s"},
		{Kind: api.SRegion, Name: "v", Body: []api.Stmt{call("e"), call("a")}},
		{Kind: api.SSet, Name: "y"},
		call("d"),
	}
	if got := Calls(l); !slices.Equal(got, []string{"b", "d", "a", "c", "e"}) {
		t.Error(got)
	}
	if Calls(nil) != nil {
		t.Error("calls of nothing")
	}
}

// P22.2: who reaches whom.
func TestReaches(t *testing.T) {
	s := calls("pq", "qp", "ab", "bc", "c", "xx", "yz", "ad")
	for _, r := range []struct {
		from, to string
		is       bool
	}{
		{"p", "p", true}, {"p", "q", true}, {"q", "q", true}, {"a", "b", true}, {"a", "c", true}, {"b", "a", false}, {"a", "a", false}, {"c", "c", false}, {"x", "x", true}, {"y", "z", true}, {"z", "z", false},
		{"n", "n", false}, {"n", "a", false}, {"a", "d", false}, {"p", "a", false}, {"", "", false}, {"y", "y", false},
	} {
		if Reaches(s, r.from, r.to) != r.is {
			t.Errorf("%s reaches %s: %v", r.from, r.to, !r.is)
		}
	}
}

// P22.3: whoever reaches one that reaches a third one, reaches that one.
func TestReachesOn(t *testing.T) {
	s := calls("abc", "bd", "cb", "dea", "eff", "f", "ghg", "hi")
	names := "abcdefghi"
	for _, a := range names {
		for _, b := range names {
			for _, c := range names {
				if Reaches(s, string(a), string(b)) && Reaches(s, string(b), string(c)) && !Reaches(s, string(a), string(c)) {
					t.Errorf("%c reaches %c, that one %c", a, b, c)
				}
			}
		}
	}
}

// P22.1 (rule 1): deep trees end.
func TestDeep(t *testing.T) {
	x, l := num(1), []api.Stmt{call("q")}
	for range 200000 {
		x = api.Expr{Kind: api.XUn, Op: api.Neg, Sub: []api.Expr{x}}
		l = []api.Stmt{{Kind: api.SWhile, Body: l}}
	}
	s := api.Source{Procs: []api.Proc{{Name: "p", Body: l}}, Body: []api.Stmt{{Kind: api.SWrite, E: []api.Expr{x}}}}
	if !Same(s, s) || Count(s) != 400003 || !slices.Equal(Calls(l), []string{"q"}) || !Reaches(s, "p", "q") {
		t.Error("deep trees")
	}
}
