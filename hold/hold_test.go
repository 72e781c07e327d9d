package hold

import (
	"slices"
	"strings"
	"testing"

	"signalbox/api"
	"signalbox/parse"
	"signalbox/scope"
	"signalbox/span"
	"signalbox/typing"
)

const inf = span.Inf

// source reads a source with the classes r (5 units) and q (3 units); of procs and body stands what is said.
func source(t *testing.T, procs, body string) (api.Source, *scope.Table) {
	t.Helper()
	src := "program p; resource r 5; resource q 3; shared v; var x; " + procs + " begin " + body + " end."
	s, f := parse.Parse([]byte(src))
	if f.Code != api.OK {
		t.Fatalf("%q: %v", src, f)
	}
	table, f := scope.Build(s)
	if f.Code != api.OK {
		t.Fatalf("%q: %v", src, f)
	}
	if f := typing.Check(s, table); f.Code != api.OK {
		t.Fatalf("%q: %v", src, f)
	}
	return s, table
}

func effect(lo, hi, top, low int) Effect {
	return Effect{Net: span.Span{Lo: lo, Hi: hi}, Top: top, Low: low}
}

// none is the effect of what does nothing.
func none() Effect {
	return effect(0, 0, -inf, inf)
}

// body: of class r the effects of these statements are so; of class q there are none, if none are said.
func body(t *testing.T, procs, stmts string, want ...Effect) {
	t.Helper()
	if len(want) == 1 {
		want = append(want, none())
	}
	s, table := source(t, procs, stmts)
	if got := Effects(s, table)[0]; !slices.Equal(got, want) {
		t.Errorf("%s: %v; want %v", stmts, got, want)
	}
}

// P29.1: statements one by one.
func TestStatements(t *testing.T) {
	body(t, "", "skip", none())
	body(t, "", "x := 1; write x; region v do skip od", none())
	body(t, "", "request r 2", effect(2, 2, 2, inf))
	body(t, "", "release r 2", effect(-2, -2, -inf, -2))
	body(t, "", "request q 2", none(), effect(2, 2, 2, inf))
	body(t, "", "request r 1, q 3", effect(1, 1, 1, inf), effect(3, 3, 3, inf))
	body(t, "", "release q 3, r 4", effect(-4, -4, -inf, -4), effect(-3, -3, -inf, -3))
	body(t, "", "region v do request r 1; request r 2 od", effect(3, 3, 3, inf))
	body(t, "", "region v when v > 0 do release r 1 od", effect(-1, -1, -inf, -1))
}

// P29.1: the document's example, and lists.
func TestLists(t *testing.T) {
	body(t, "", "request r 1; request r 1; release r 2", effect(0, 0, 2, 0))
	body(t, "", "request r 3; release r 3; request r 1", effect(1, 1, 3, 0))
	body(t, "", "release r 1; request r 3; release r 1", effect(1, 1, 2, -1))
	body(t, "", "request r 2; request q 1; release r 2; release q 1", effect(0, 0, 2, 0), effect(0, 0, 1, 0))
}

// P29.1: choices.
func TestIf(t *testing.T) {
	body(t, "", "if true then request r 2 fi", effect(0, 2, 2, inf))
	body(t, "", "if true then request r 2 else request r 3; release r 1 fi", effect(2, 2, 3, 2))
	body(t, "", "if true then release r 2 else request r 3 fi; request r 1", effect(-1, 4, 4, -2))
	body(t, "", "if true then skip else release r 1 fi", effect(-1, 0, -inf, -1))
	body(t, "", "if true then request r 1 fi; release r 1", effect(-1, 0, 1, -1))
}

// P29.1: loops.
func TestWhile(t *testing.T) {
	body(t, "", "while true do skip od", none())
	body(t, "", "while true do request r 1; release r 1 od", effect(0, 0, 1, 0))
	body(t, "", "while true do request r 1 od", effect(0, inf, inf, inf))
	body(t, "", "while true do release r 1 od", effect(-inf, 0, -inf, -inf))
	body(t, "", "while true do request r 2; release r 1 od", effect(0, inf, inf, 1))
	body(t, "", "while true do request r 1; release r 2 od", effect(-inf, 0, 1, -inf))
	body(t, "", "while true do if true then request r 1 else release r 1 fi od", effect(-inf, inf, inf, -inf))
	body(t, "", "while true do request r 1 od; request r 1", effect(1, inf, inf, inf))
	body(t, "", "while true do request r 1 od; release r 3", effect(-3, inf, inf, -3))
	body(t, "", "while true do release r 1 od; release r 1", effect(-inf, -1, -inf, -inf))
	body(t, "", "while true do release r 1 od; request r 4", effect(-inf, 4, 4, -inf))
	body(t, "", "while true do request r 1 od; release r 9; while true do request r 1 od", effect(-9, inf, inf, -9))
}

// P29.1: calls; of a procedure that reaches itself anything may come, if it or one that it reaches has to do with the class.
func TestCalls(t *testing.T) {
	take := "procedure take(n); begin request r 2; write n end; "
	body(t, take, "take(1); take(2)", effect(4, 4, 4, inf))
	body(t, take+"procedure both(); begin take(1); request q 1; release r 1 end;", "both(); both()", effect(2, 2, 3, 1), effect(2, 2, 2, inf))
	whatever := effect(-inf, inf, inf, -inf)
	body(t, "procedure f(); begin if true then f() fi end;", "f()", none())
	body(t, "procedure f(); begin request r 1; release r 1; f() end;", "f()", whatever)
	body(t, "procedure f(); begin if true then g() fi end; procedure g(); begin while true do f() od; release q 1 end;", "f()", none(), whatever)
	body(t, "procedure f(); begin if true then g() fi end; procedure g(); begin while true do f() od; h() end; procedure h(); begin region v do request q 1 od end;", "request r 1; g()", effect(1, 1, 1, inf), whatever)
	// Who is forked holds by itself, and is not called.
	body(t, "procedure f(); begin request r 1 end; procedure g(); begin cobegin f() // g() coend end;", "g(); cobegin f() claims r 1 coend", none())
	s, table := source(t, "procedure f(); begin request r 1; f() end; procedure g(); begin release q 1; f() end;", "g()")
	want := [][]Effect{{whatever, effect(-1, -1, -inf, -1)}, {effect(-inf, inf, inf, 1-inf), none()}, {whatever, effect(-1, -1, -inf, -1)}}
	if got := Effects(s, table); !slices.EqualFunc(got, want, slices.Equal) {
		t.Error(got)
	}
	// A procedure's own row is that of its statements: nothing comes ahead of its request but itself.
	s, table = source(t, "procedure f(); begin if true then f() fi; request q 1 end;", "skip")
	want = [][]Effect{{none(), none()}, {none(), effect(-inf, inf, inf, -inf)}}
	if got := Effects(s, table); !slices.EqualFunc(got, want, slices.Equal) {
		t.Error(got)
	}
}

// P29.1: clipped sums, as they are said.
func TestClipped(t *testing.T) {
	loop := "while true do request r 1 od"
	body(t, "", loop+"; release r 1000; "+loop, effect(-1000, inf, inf, -1000))
	body(t, "procedure f(); begin release r 1000; if true then f() fi end; procedure g(); begin f(); request r 3 end;", "release r 7; g()", effect(-inf, inf, inf-7, -inf))
	// What may be whatever behind a release is counted from what is held ahead of that.
	body(t, "procedure f(); begin release r 1; if true then f() fi end;", "release r 3; f()", effect(-inf, inf, inf-3, -inf))
}

// found: these are all findings of a source.
func found(t *testing.T, procs, stmts string, want ...Finding) {
	t.Helper()
	s, table := source(t, procs, stmts)
	got := Findings(s, table)
	if !slices.Equal(got, want) || Accepts(s, table) != (len(want) == 0) {
		t.Errorf("%s %s: %v, %v; want %v", procs, stmts, got, Accepts(s, table), want)
	}
}

// P29.2: what is found of the program's own body.
func TestFindingsOfBody(t *testing.T) {
	found(t, "claims r 5, q 3;", "request r 5; request q 3")
	found(t, "claims r 2;", "request r 2; release r 2; request r 1")
	found(t, "claims r 2;", "request r 3", Finding{-1, 0, 3, 2})
	found(t, "", "request r 1", Finding{-1, 0, 1, 0})
	found(t, "", "release r 1")
	found(t, "", "skip")
	found(t, "claims q 4;", "skip", Finding{-1, 1, -inf, 4})
	found(t, "claims r 6, q 3;", "request r 1; request q 4", Finding{-1, 0, 1, 6}, Finding{-1, 1, 4, 3})
	found(t, "claims r 5;", "while true do request r 1 od", Finding{-1, 0, inf, 5})
}

// P29.2: what is found of branches, in the order of the source, at their places.
func TestFindingsOfBranches(t *testing.T) {
	procs := "procedure f(); begin request r 2; release r 2 end; procedure g(n); begin if true then cobegin f() claims q 9 // f() claims r 2 coend fi end; "
	stmts := "cobegin f() claims r 1 // g(3) // f() claims r 6 coend; while true do region v do cobegin f() coend od od"
	src := "program p; resource r 5; resource q 3; shared v; var x; " + procs + " begin " + stmts + " end."
	at := func(text string, n int) int {
		from := 0
		for range n {
			from += strings.Index(src[from:], text) + 1
		}
		return from - 1
	}
	found(t, procs, stmts,
		Finding{at("f() claims q 9", 1), 0, 2, 0}, Finding{at("f() claims q 9", 1), 1, -inf, 9},
		Finding{at("f() claims r 1", 1), 0, 2, 1}, Finding{at("f() claims r 6", 1), 0, 2, 6}, Finding{at("f() coend", 1), 0, 2, 0})
	procs = "procedure f(); begin request r 1; release r 1 end; "
	stmts = "if true then skip else cobegin f() coend fi"
	src = "program p; resource r 5; resource q 3; shared v; var x; " + procs + " begin " + stmts + " end."
	found(t, procs, stmts, Finding{at("f() coend", 1), 0, 1, 0})
	// Of a branch the top is as of a call: whatever, of a procedure that reaches itself.
	procs = "procedure f(); begin request r 1; release r 1; if true then f() fi end; "
	src = "program p; resource r 5; resource q 3; shared v; var x; " + procs + " begin cobegin f() claims r 5 coend end."
	found(t, procs, "cobegin f() claims r 5 coend", Finding{at("f() claims r 5", 1), 0, inf, 5})
}

// state is what one process has done of a class: what it holds, the most behind requests, the least behind releases.
type state struct{ held, top, low int }

// ways goes all ways through statements, with loops of at most two rounds: the states behind them.
func ways(s api.Source, l []api.Stmt, from []state, deep int) []state {
	for _, x := range l {
		var next []state
		switch x.Kind {
		case api.SRequest, api.SRelease:
			for _, st := range from {
				for _, i := range x.Items {
					if i.Name != "r" {
						continue
					}
					if x.Kind == api.SRequest {
						st.held += i.N
						st.top = max(st.top, st.held)
					} else {
						st.held -= i.N
						st.low = min(st.low, st.held)
					}
				}
				next = append(next, st)
			}
		case api.SIf:
			next = append(ways(s, x.Body, slices.Clone(from), deep), ways(s, x.Else, slices.Clone(from), deep)...)
		case api.SWhile:
			once := ways(s, x.Body, slices.Clone(from), deep)
			next = slices.Concat(from, once, ways(s, x.Body, slices.Clone(once), deep))
		case api.SRegion:
			next = ways(s, x.Body, from, deep)
		case api.SCall:
			if deep > 0 {
				at := slices.IndexFunc(s.Procs, func(p api.Proc) bool { return p.Name == x.Name })
				next = ways(s, s.Procs[at].Body, from, deep-1)
			}
		default:
			next = from
		}
		slices.SortFunc(next, func(a, b state) int { return (a.held-b.held)*10000 + (a.top-b.top)*100 + a.low - b.low })
		from = slices.Compact(next)
	}
	return from
}

// P29.3: whatever way is gone, what is held lies within the effects.
func TestWaysLieWithin(t *testing.T) {
	seed := uint32(21)
	below := func(n int) int {
		seed = seed*1664525 + 1013904223
		return int(seed>>8) % n
	}
	var stmts func(depth int) string
	stmts = func(depth int) string {
		var l []string
		for range 1 + below(3) {
			switch k := below(9); {
			case k < 2:
				l = append(l, "request r "+string(rune('1'+below(3))))
			case k < 4:
				l = append(l, "release r "+string(rune('1'+below(3))))
			case k == 4:
				l = append(l, []string{"f()", "g()", "h()"}[below(3)])
			case depth == 0:
				l = append(l, "skip")
			case k == 5:
				l = append(l, "if true then "+stmts(depth-1)+" fi")
			case k == 6:
				l = append(l, "if true then "+stmts(depth-1)+" else "+stmts(depth-1)+" fi")
			case k == 7:
				l = append(l, "while true do "+stmts(depth-1)+" od")
			default:
				l = append(l, "region v do "+stmts(0)+" od")
			}
		}
		return strings.Join(l, "; ")
	}
	for range 400 {
		procs := ""
		for _, name := range []string{"f", "g", "h"} {
			procs += "procedure " + name + "(); begin " + stmts(1) + " end; "
		}
		s, table := source(t, procs, stmts(2))
		effects := Effects(s, table)
		for i, l := range [][]api.Stmt{s.Body, s.Procs[0].Body, s.Procs[1].Body, s.Procs[2].Body} {
			e := effects[i][0]
			for _, st := range ways(s, l, []state{{0, -inf, inf}}, 2) {
				if !span.Has(e.Net, st.held) || st.top > e.Top && e.Top < inf-100000 || st.low < e.Low && e.Low > 100000-inf {
					t.Fatalf("%s: %v is not within %v", procs, st, e)
				}
			}
		}
	}
}

// P29.1, P29.2 (rule 10): of other sources and tables the calls end.
func TestAnything(t *testing.T) {
	s, table := source(t, "procedure f(); begin request r 1; f() end;", "cobegin f() claims r 9 coend; f()")
	other, _ := scope.Build(api.Source{})
	for _, x := range []*scope.Table{nil, other} {
		Effects(s, x)
		Findings(s, x)
		Accepts(s, x)
	}
	weird := api.Source{Procs: []api.Proc{{Name: "f", Body: s.Body}, {Name: "f", Body: []api.Stmt{{Kind: api.SRequest, Items: []api.Item{{Name: "r", N: api.Most}, {Name: "r", N: api.Least}, {Name: "v"}}}}}}, Body: []api.Stmt{{Kind: api.SCall, Name: "z"}, {Kind: 99}, {Kind: api.SCall, Name: "f"}}}
	Effects(weird, table)
	Findings(weird, table)
}
