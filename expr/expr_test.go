package expr

import (
	"strconv"
	"strings"
	"testing"

	"signalbox/api"
	"signalbox/token"
)

func tokens(t *testing.T, src string) []api.Token {
	t.Helper()
	l, f := token.All([]byte(src))
	if f != (api.Fault{}) {
		t.Fatalf("%q: %v", src, f)
	}
	return l
}

// short tells an expression in short: each part with its place.
func short(x api.Expr) string {
	at := "@" + strconv.Itoa(x.At)
	var subs []string
	for _, s := range x.Sub {
		subs = append(subs, short(s))
	}
	in := "(" + strings.Join(subs, " ") + ")"
	op := map[int]string{api.Or: "or", api.And: "and", api.Not: "not", api.Neg: "neg", api.Eq: "eq", api.Ne: "ne", api.Lt: "lt", api.Le: "le", api.Gt: "gt", api.Ge: "ge", api.Add: "add", api.Sub: "sub", api.Mul: "mul", api.Div: "div", api.Mod: "mod", 0: ""}[x.Op]
	switch x.Kind {
	case api.XNum:
		return strconv.Itoa(x.Num) + at
	case api.XBool:
		return "b" + strconv.Itoa(x.Num) + at
	case api.XName:
		return x.Name + at
	case api.XElem:
		return x.Name + at + in
	case api.XUn:
		return "u" + op + at + in
	case api.XBin:
		return op + at + in
	}
	return "?"
}

// parsed: src is that expression, up to ahead of the token of that place in the list.
func parsed(t *testing.T, src, want string, next int) {
	t.Helper()
	if x, n, f := Parse(tokens(t, src), 0, 1); f != (api.Fault{}) || short(x) != want || n != next {
		t.Errorf("%q: %s, %d, %v; want %s, %d", src, short(x), n, f, want, next)
	}
}

func fault(t *testing.T, src string, level, at int, c api.Code) {
	t.Helper()
	x, n, f := Parse(tokens(t, src), 0, level)
	if f != (api.Fault{Code: c, At: at}) || x.Kind != 0 || x.Sub != nil || n != 0 {
		t.Errorf("%q: %s, %d, %v; want %d at %d", src, short(x), n, f, c, at)
	}
}

// P23.1: what begins an expression.
func TestPrims(t *testing.T) {
	parsed(t, "12", "12@0", 1)
	parsed(t, " true", "b1@1", 1)
	parsed(t, "false", "b0@0", 1)
	parsed(t, "ab", "ab@0", 1)
	parsed(t, "a[1]", "a@0(1@2)", 4)
	parsed(t, "(a)", "a@1", 3)
	parsed(t, "((1))", "1@2", 5)
	parsed(t, "a[b[c]]", "a@0(b@2(c@4))", 7)
	parsed(t, "-1", "uneg@0(1@1)", 2)
	parsed(t, "--1", "uneg@0(uneg@1(1@2))", 3)
	parsed(t, "not true", "unot@0(b1@4)", 2)
	parsed(t, "not not a", "unot@0(unot@4(a@8))", 3)
}

// P23.1, P23.4: rows, and that signs of one row bind from the left.
func TestRows(t *testing.T) {
	parsed(t, "1 - 2 - 3", "sub@6(sub@2(1@0 2@4) 3@8)", 5)
	parsed(t, "1-2+3", "add@3(sub@1(1@0 2@2) 3@4)", 5)
	parsed(t, "8/4*2%3", "mod@5(mul@3(div@1(8@0 4@2) 2@4) 3@6)", 7)
	parsed(t, "1+2*3", "add@1(1@0 mul@3(2@2 3@4))", 5)
	parsed(t, "1*2+3", "add@3(mul@1(1@0 2@2) 3@4)", 5)
	parsed(t, "(1+2)*3", "mul@5(add@2(1@1 2@3) 3@6)", 7)
	parsed(t, "a or b and c or d", "or@13(or@2(a@0 and@7(b@5 c@11)) d@16)", 7)
	parsed(t, "a and b and c", "and@8(and@2(a@0 b@6) c@12)", 5)
	parsed(t, "not a and b", "and@6(unot@0(a@4) b@10)", 4)
	parsed(t, "not a = b", "unot@0(eq@6(a@4 b@8))", 4)
	parsed(t, "a and not b or c", "or@12(and@2(a@0 unot@6(b@10)) c@15)", 6)
	parsed(t, "-a*b", "mul@2(uneg@0(a@1) b@3)", 4)
	parsed(t, "a*-b", "mul@1(a@0 uneg@2(b@3))", 4)
	parsed(t, "a--b", "sub@1(a@0 uneg@2(b@3))", 4)
	parsed(t, "-(a+b)", "uneg@0(add@3(a@2 b@4))", 6)
	parsed(t, "1+2<3*4", "lt@3(add@1(1@0 2@2) mul@5(3@4 4@6))", 7)
	for sign, op := range map[string]string{"=": "eq", "<>": "ne", "<": "lt", "<=": "le", ">": "gt", ">=": "ge"} {
		parsed(t, "a "+sign+" b", op+"@2(a@0 b@"+strconv.Itoa(3+len(sign))+")", 3)
	}
}

// P23.1, P23.4: the longest expression that begins there; a rel has one sign at most.
func TestUpTo(t *testing.T) {
	parsed(t, "a < b < c", "lt@2(a@0 b@4)", 3)
	parsed(t, "a = b + c = d", "eq@2(a@0 add@6(b@4 c@8))", 5)
	parsed(t, "a < b and c", "and@6(lt@2(a@0 b@4) c@10)", 5)
	parsed(t, "a b", "a@0", 1)
	parsed(t, "a (b)", "a@0", 1)
	parsed(t, "1[2]", "1@0", 1)
	parsed(t, "a not b", "a@0", 1)
	parsed(t, "a ; b", "a@0", 1)
	parsed(t, "a := b", "a@0", 1)
	parsed(t, "(a) do", "a@1", 3)
	l := tokens(t, "x := a + 1 ; y")
	if x, n, f := Parse(l, 2, 1); f != (api.Fault{}) || short(x) != "add@7(a@5 1@9)" || n != 5 {
		t.Error(short(x), n, f)
	}
}

// P23.2: another token must stand there.
func TestSyntax(t *testing.T) {
	for _, r := range []struct {
		src string
		at  int
	}{
		{"", 0}, {"+", 0}, {"1 +", 3}, {"1 + + 2", 4}, {"(1", 2}, {"(1]", 2}, {"()", 1}, {"a[", 2}, {"a[]", 2}, {"a[1", 3}, {"a[1)", 3}, {"not", 3}, {"-", 1}, {"a and", 5}, {"a = not b", 4}, {"a + not b", 4}, {"- not a", 2},
		{"begin", 0}, {"1 + do", 4}, {"a * (b + ) c", 9}, {"(a < b < c)", 7}, {"a[1 2]", 4}, {"P", 0}, {":=", 0}, {"1 < = 2", 4},
	} {
		fault(t, r.src, 1, r.at, api.ESyntax)
	}
}

// P23.2: levels.
func TestLevels(t *testing.T) {
	for _, r := range []struct {
		head, tail string
		deep       int // where the token lies behind which the next level begins
	}{{"not ", "", 0}, {"-", "", 0}, {"(", ")", 0}, {"a[", "]", 1}} {
		for level := -2; level <= 26; level++ {
			n := max(api.MaxDepth-level, 0)
			fits := strings.Repeat(r.head, n) + "1" + strings.Repeat(r.tail, n)
			if _, _, f := Parse(tokens(t, fits), 0, level); f != (api.Fault{}) {
				t.Errorf("%q on level %d: %v", fits, level, f)
			}
			fault(t, strings.Repeat(r.head, n+1)+"1", level, n*len(r.head)+r.deep, api.EDeep)
		}
	}
	// What stands side by side goes no further.
	parsed(t, "(1)+(2)", "add@3(1@1 2@5)", 7)
	for _, src := range []string{"(1) + (2) * -(3)", "a[1] + -2"} {
		if _, _, f := Parse(tokens(t, src), 0, 22); f != (api.Fault{}) {
			t.Error(src, f)
		}
	}
	fault(t, "1 + (2) + (", 24, 4, api.EDeep)
	fault(t, "1 - 2 - 3 + a[", 24, 13, api.EDeep)
	if _, _, f := Parse(tokens(t, "1 - 2 - 3"), 0, 24); f != (api.Fault{}) {
		t.Error(f)
	}
	if _, _, f := Parse(tokens(t, "1 - a"), 0, api.Most); f != (api.Fault{}) {
		t.Error(f)
	}
	fault(t, "-a", api.Most, 0, api.EDeep)
}

// P23.2: the first that is met is told.
func TestFirst(t *testing.T) {
	fault(t, "(+", 24, 0, api.EDeep)
	fault(t, "+(", 24, 0, api.ESyntax)
	fault(t, "1 + ) (", 1, 4, api.ESyntax)
	fault(t, "(1 + ]", 23, 5, api.ESyntax)
	fault(t, "((1 + ]", 23, 1, api.EDeep)
}

// P23.3 (rule 1): lists that are no All's, and places beyond.
func TestAnything(t *testing.T) {
	for _, at := range []int{api.Least, -1, 3, 4, api.Most} {
		for _, l := range [][]api.Token{nil, {}, {{Kind: api.KNum, Num: 4}}, tokens(t, "a")} {
			if x, n, f := Parse(l, at, 1); f.Code == api.OK || x.Kind != 0 || n != 0 {
				t.Errorf("at %d: %s", at, short(x))
			}
		}
	}
	kinds := []api.Token{{Kind: api.KSign, Text: "("}, {Kind: api.KSign, Text: "-"}, {Kind: api.KWord, Text: "not"}, {Kind: api.KName, Text: "a"}, {Kind: api.KSign, Text: "["}, {Kind: api.KSign, Text: "+"}, {Kind: api.KNum}, {Kind: 99}, {}}
	for i := range kinds {
		for j := range kinds {
			for k := range kinds {
				l := []api.Token{kinds[i], kinds[j], kinds[k]}
				for at := range 3 {
					Parse(l, at, api.Least)
					Parse(l, at, 1)
				}
			}
		}
	}
	long := make([]api.Token, 300000)
	for i := range long {
		long[i] = kinds[0]
	}
	Parse(long, 0, api.Least)
	Parse(long[:4097], 0, api.Least)
	longest := tokens(t, "-1"+strings.Repeat("+1", 2047))
	if _, n, f := Parse(longest, 0, 1); len(longest) != 4097 || n != 4096 || f != (api.Fault{}) {
		t.Error(len(longest), n, f)
	}
	if _, _, f := Parse([]api.Token{{Kind: api.KNum, Num: 4}}, 0, 1); f != (api.Fault{}) {
		t.Error(f)
	}
}
