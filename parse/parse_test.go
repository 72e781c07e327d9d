package parse

import (
	"fmt"
	"strings"
	"testing"

	"signalbox/api"
)

func parsed(t *testing.T, src string) api.Source {
	t.Helper()
	s, f := Parse([]byte(src))
	if f != (api.Fault{}) {
		t.Fatalf("%q: %v", src, f)
	}
	return s
}

func fault(t *testing.T, src string, at int, c api.Code) {
	t.Helper()
	s, f := Parse([]byte(src))
	if f != (api.Fault{Code: c, At: at}) {
		t.Errorf("%q: %v; want %d at %d", src, f, c, at)
	}
	if s.Name != "" || s.Decls != nil || s.Procs != nil || s.Claims != nil || s.Body != nil {
		t.Errorf("%q: a source beside a fault", src)
	}
}

// is compares as a text: an empty list is as none.
func is(t *testing.T, what string, got, want any) {
	t.Helper()
	if g, w := fmt.Sprintf("%+v", got), fmt.Sprintf("%+v", want); g != w {
		t.Errorf("%s:\n got %s\nwant %s", what, g, w)
	}
}

// body is the only statement of a program; its place is 17.
func body(t *testing.T, stmt string) api.Stmt {
	t.Helper()
	s := parsed(t, "program p; begin "+stmt+" end.")
	if len(s.Body) != 1 {
		t.Fatalf("%q: %d statements", stmt, len(s.Body))
	}
	return s.Body[0]
}

func num(at, n int) api.Expr {
	return api.Expr{Kind: api.XNum, At: at, Num: n}
}

func name(at int, s string) api.Expr {
	return api.Expr{Kind: api.XName, At: at, Name: s}
}

// P24.2: the document's example, and all that stands ahead of the statements.
func TestProgram(t *testing.T) {
	is(t, "least", parsed(t, "program p; begin skip end."), api.Source{Name: "p", Body: []api.Stmt{{Kind: api.SSkip, At: 17}}})
	src := "program pp; resource r 3; semaphore s 0; shared v; shared w[64]; var x; var y[1]; procedure q(); begin skip end; procedure f(a, b); var c; var d; begin skip; skip end; claims r 2, rr 7; begin skip end."
	is(t, "full", parsed(t, src), api.Source{
		Name: "pp",
		Decls: []api.Decl{
			{Kind: api.DClass, At: 21, Name: "r", N: 3}, {Kind: api.DSema, At: 36, Name: "s"}, {Kind: api.DShared, At: 48, Name: "v"}, {Kind: api.DShared, At: 58, Name: "w", N: 64},
			{Kind: api.DVar, At: 69, Name: "x"}, {Kind: api.DVar, At: 76, Name: "y", N: 1},
		},
		Procs: []api.Proc{
			{At: 92, Name: "q", Body: []api.Stmt{{Kind: api.SSkip, At: 103}}},
			{At: 123, Name: "f", Params: []api.Ident{{At: 125, Name: "a"}, {At: 128, Name: "b"}}, Vars: []api.Ident{{At: 136, Name: "c"}, {At: 143, Name: "d"}}, Body: []api.Stmt{{Kind: api.SSkip, At: 152}, {Kind: api.SSkip, At: 158}}},
		},
		Claims: []api.Item{{At: 175, Name: "r", N: 2}, {At: 180, Name: "rr", N: 7}},
		Body:   []api.Stmt{{Kind: api.SSkip, At: 192}},
	})
}

// P24.2: statements.
func TestStatements(t *testing.T) {
	skip := func(at int) []api.Stmt { return []api.Stmt{{Kind: api.SSkip, At: at}} }
	for _, r := range []struct {
		src  string
		want api.Stmt
	}{
		{"skip", api.Stmt{Kind: api.SSkip}},
		{"x := 1", api.Stmt{Kind: api.SSet, Name: "x", E: []api.Expr{num(22, 1)}}},
		{"x[1] := 2", api.Stmt{Kind: api.SSetElem, Name: "x", E: []api.Expr{num(19, 1), num(25, 2)}}},
		{"f()", api.Stmt{Kind: api.SCall, Name: "f"}},
		{"f(1, a)", api.Stmt{Kind: api.SCall, Name: "f", E: []api.Expr{num(19, 1), name(22, "a")}}},
		{"if a then skip fi", api.Stmt{Kind: api.SIf, E: []api.Expr{name(20, "a")}, Body: skip(27)}},
		{"if a then skip else skip fi", api.Stmt{Kind: api.SIf, E: []api.Expr{name(20, "a")}, Body: skip(27), Else: skip(37)}},
		{"while a do skip od", api.Stmt{Kind: api.SWhile, E: []api.Expr{name(23, "a")}, Body: skip(28)}},
		{"cobegin f() coend", api.Stmt{Kind: api.SFork, Branches: []api.Branch{{At: 25, Name: "f"}}}},
		{"cobegin f(1, 2) claims r 1, s 2 // g() claims r 3 coend", api.Stmt{Kind: api.SFork, Branches: []api.Branch{
			{At: 25, Name: "f", Args: []api.Expr{num(27, 1), num(30, 2)}, Claims: []api.Item{{At: 40, Name: "r", N: 1}, {At: 45, Name: "s", N: 2}}},
			{At: 52, Name: "g", Claims: []api.Item{{At: 63, Name: "r", N: 3}}},
		}}},
		{"P(s)", api.Stmt{Kind: api.SP, Name: "s"}},
		{"V(s)", api.Stmt{Kind: api.SV, Name: "s"}},
		{"region v do skip od", api.Stmt{Kind: api.SRegion, Name: "v", Body: skip(29)}},
		{"region v when a do skip od", api.Stmt{Kind: api.SRegion, Name: "v", E: []api.Expr{name(31, "a")}, Body: skip(36)}},
		{"request r 1", api.Stmt{Kind: api.SRequest, Items: []api.Item{{At: 25, Name: "r", N: 1}}}},
		{"release r 1, s 0", api.Stmt{Kind: api.SRelease, Items: []api.Item{{At: 25, Name: "r", N: 1}, {At: 30, Name: "s"}}}},
		{"read x", api.Stmt{Kind: api.SRead, Name: "x"}},
		{"read x[3]", api.Stmt{Kind: api.SGetElem, Name: "x", E: []api.Expr{num(24, 3)}}},
		{"write 5", api.Stmt{Kind: api.SWrite, E: []api.Expr{num(23, 5)}}},
	} {
		r.want.At = 17
		is(t, r.src, body(t, r.src), r.want)
	}
}

// P24.2, P24.3: statements within others, and one behind the other.
func TestNested(t *testing.T) {
	s := body(t, "while a do if b then skip; x := 1 else region v do skip od; skip fi; cobegin f() coend od")
	if len(s.Body) != 2 || len(s.Body[0].Body) != 2 || len(s.Body[0].Else) != 2 || s.Body[0].Else[0].Kind != api.SRegion || s.Body[1].Kind != api.SFork {
		t.Errorf("%+v", s)
	}
	if all := parsed(t, "program p; begin skip; skip; skip end."); len(all.Body) != 3 {
		t.Errorf("%+v", all)
	}
}

// P24.1: the token behind which another one must stand.
func TestSyntax(t *testing.T) {
	for _, src := range []string{
		"|", "|x", "program |", "program |begin", "program p |begin skip end.", "program p; |", "program p; |skip", "program p; begin |end.", "program p; begin skip; |end.", "program p; begin skip end|", "program p; begin skip end|;",
		"program p; begin skip end. |x", "program p; begin skip end. |.", "program p; begin skip |skip end.", "program p; |a 1; begin skip end.", "program p; resource |1; begin skip end.", "program p; resource r|; begin skip end.",
		"program p; resource r 1 |begin skip end.", "program p; resource r |-1; begin skip end.", "program p; semaphore s |s; begin skip end.", "program p; semaphore s|[1]; begin skip end.", "program p; shared v |1; begin skip end.",
		"program p; shared v[|]; begin skip end.", "program p; shared v[1|; begin skip end.", "program p; var x[|y]; begin skip end.", "program p; var x|, y; begin skip end.", "program p; var |begin; begin skip end.",
		"program p; procedure |(); begin skip end; begin skip end.", "program p; procedure q|; begin skip end; begin skip end.", "program p; procedure q(|1); begin skip end; begin skip end.", "program p; procedure q(a|; begin skip end; begin skip end.",
		"program p; procedure q(a,|); begin skip end; begin skip end.", "program p; procedure q(a |b); begin skip end; begin skip end.", "program p; procedure q() |begin skip end; begin skip end.", "program p; procedure q(); var a|[2]; begin skip end; begin skip end.",
		"program p; procedure q(); var a |begin skip end; begin skip end.", "program p; procedure q(); |shared a; begin skip end; begin skip end.", "program p; procedure q(); begin skip end|. begin skip end.", "program p; procedure q(); begin skip |fi; begin skip end.",
		"program p; procedure q(); begin skip end; |var x; begin skip end.", "program p; claims r 1; |var x; begin skip end.", "program p; claims r 1; |claims r 1; begin skip end.", "program p; claims |; begin skip end.", "program p; claims r|; begin skip end.",
		"program p; claims r 1, |; begin skip end.", "program p; claims r 1 |begin skip end.", "program p; claims r 1|.", "program p; begin x |end.", "program p; begin x |= 1 end.", "program p; begin x := |end.", "program p; begin x[1] |= 1 end.",
		"program p; begin x[|] := 1 end.", "program p; begin x[1 |:= 1 end.", "program p; begin x[1]|[2] := 1 end.", "program p; begin f(|; end.", "program p; begin f(1 |2) end.", "program p; begin f(1,|) end.", "program p; begin f(1) |:= 2 end.",
		"program p; begin if |then skip fi end.", "program p; begin if a |skip fi end.", "program p; begin if a then |fi end.", "program p; begin if a then skip |end.", "program p; begin if a then skip else |fi end.", "program p; begin if a then skip else skip |else skip fi end.",
		"program p; begin while a |then skip od end.", "program p; begin while a do skip |fi end.", "program p; begin cobegin |coend end.", "program p; begin cobegin f|; coend end.", "program p; begin cobegin f() |; g() coend end.", "program p; begin cobegin f() // |coend end.",
		"program p; begin cobegin f() claims |coend end.", "program p; begin cobegin f() claims r |coend end.", "program p; begin cobegin |skip coend end.", "program p; begin P |s end.", "program p; begin P(|1) end.", "program p; begin V(s|[1]) end.", "program p; begin V(s|; end.",
		"program p; begin region |do skip od end.", "program p; begin region v |skip od end.", "program p; begin region v when |do skip od end.", "program p; begin region v when a |then skip od end.", "program p; begin region v do skip |end.", "program p; begin region v|[1] do skip od end.",
		"program p; begin request |1 end.", "program p; begin request r |end.", "program p; begin request r 1, |end.", "program p; begin release r |-1 end.", "program p; begin read |1 end.", "program p; begin read x[|] end.", "program p; begin read x |:= 1 end.", "program p; begin read x[1|, 2] end.",
		"program p; begin write |end.", "program p; begin write 1 |2 end.", "program p; begin write a < b |< c end.", "program p; begin |begin skip end end.", "program p; begin |1 end.", "program p; begin |( end.", "program p; begin |else end.", "program p; begin |",
	} {
		at := strings.IndexByte(src, '|')
		fault(t, src[:at]+src[at+1:], at+len(src[at+1:])-len(strings.TrimLeft(src[at+1:], " ")), api.ESyntax)
	}
}

// P24.1: how many elements an array may have.
func TestSizes(t *testing.T) {
	for _, r := range []struct {
		n  string
		ok bool
	}{{"0", false}, {"1", true}, {"64", true}, {"65", false}, {"9223372036854775807", false}, {"007", true}} {
		for _, word := range []string{"shared", "var"} {
			src := "program p; " + word + " x[" + r.n + "]; begin skip end."
			if r.ok {
				parsed(t, src)
			} else {
				fault(t, src, strings.IndexByte(src, '[')+1, api.EUnits)
			}
		}
	}
	fault(t, "program p; var x[0; begin", 17, api.EUnits)
	parsed(t, "program p; resource r 9223372036854775807; semaphore s 0; resource q 0; begin skip end.")
}

// nest is src within n statements, each by head and tail.
func nest(n int, head, src, tail string) string {
	return "program p; begin " + strings.Repeat(head, n) + src + strings.Repeat(tail, n) + " end."
}

// P24.1: levels of statements and of what stands within them.
func TestLevels(t *testing.T) {
	heads := []struct{ head, tail, word string }{
		{"if a then ", " fi", "then"}, {"if a then skip else ", " fi", "then"}, {"while a do ", " od", "do"}, {"region v do ", " od", "do"}, {"region v when a do ", " od", "do"},
	}
	for _, h := range heads {
		for _, src := range []string{"skip", "write 1", "x := a", "f(1, 2)", "cobegin f(1) coend", "read x", "P(s)", "if a", "region v when a", "while a"} {
			full := map[string]string{"if a": "if a then skip fi", "region v when a": "region v when a do skip od", "while a": "while a do skip od"}[src]
			if full != "" {
				parsed(t, nest(22, h.head, full, h.tail))
				at := strings.LastIndex(nest(23, h.head, full, h.tail), map[bool]string{true: "then", false: "do"}[src == "if a"]+" skip")
				fault(t, nest(23, h.head, full, h.tail), at, api.EDeep)
				continue
			}
			parsed(t, nest(23, h.head, src, h.tail))
		}
		src := nest(24, h.head, "skip", h.tail)
		fault(t, src, strings.LastIndex(src, h.word), api.EDeep)
		// An expression is on its statement's level; an index one further.
		for _, r := range []struct{ src, sign string }{
			{"x[1] := 1", "["}, {"read x[1]", "["}, {"write -1", "-"}, {"write not a", "not"}, {"write (1)", "("}, {"write x[1]", "["}, {"f(-1)", "-"}, {"cobegin f(-1) coend", "-"}, {"x := -1", "-"},
		} {
			parsed(t, nest(22, h.head, r.src, h.tail))
			src := nest(23, h.head, r.src, h.tail)
			fault(t, src, strings.LastIndex(src, r.sign), api.EDeep)
		}
		src = nest(22, h.head, "x[-1] := 1", h.tail)
		fault(t, src, strings.LastIndex(src, "-"), api.EDeep)
		parsed(t, nest(22, h.head, "x[1] := -1", h.tail))
		parsed(t, nest(21, h.head, "x[-1] := 1", h.tail))
	}
	src := "program p; procedure q(); begin " + strings.Repeat("while a do ", 24) + "skip"
	fault(t, src, strings.LastIndex(src, "do"), api.EDeep)
	// The condition comes first, and the word itself must be there.
	src = nest(23, "while a do ", "while - do skip od", " od")
	fault(t, src, strings.LastIndex(src, "-"), api.EDeep)
	src = nest(23, "while a do ", "while a skip od", " od")
	fault(t, src, strings.LastIndex(src, "skip"), api.ESyntax)
}

// P24.1: 21's faults go ahead of all others; else the first from the left.
func TestFirst(t *testing.T) {
	fault(t, "x ?", 2, api.EByte)
	fault(t, "program p; begin skip end end. abcdefghijklmn", 31, api.ELong)
	fault(t, "program begin 99999999999999999999", 14, api.ENum)
	fault(t, strings.Repeat(";", 4097), 4096, api.EMany)
	fault(t, "program p; var x[65]; begin", 17, api.EUnits)
	fault(t, "program p; var [65]; begin", 15, api.ESyntax)
	fault(t, "program p; begin x := (1; y := end.", 24, api.ESyntax)
}

// P24.1 (rule 1): a source of any tokens ends.
func TestAnything(t *testing.T) {
	words := strings.Fields("program p ; resource 1 [ ] var procedure ( ) begin end . if then else fi while do od cobegin // coend claims P V region when request read write := not - + x , skip")
	seed := uint32(5)
	for range 20000 {
		var l []string
		for range 14 {
			seed = seed*1664525 + 1013904223
			l = append(l, words[int(seed>>8)%len(words)])
		}
		Parse([]byte("program p ; begin " + strings.Join(l, " ")))
	}
}

// P24.2 (rule 3): the source's bytes are not kept.
func TestMemory(t *testing.T) {
	src := []byte("program pp; begin xx := yy end.")
	s, _ := Parse(src)
	for i := range src {
		src[i] = 'z'
	}
	if s.Name != "pp" || s.Body[0].Name != "xx" || s.Body[0].E[0].Name != "yy" {
		t.Error(s)
	}
}
