package typing

import (
	"strings"
	"testing"

	"signalbox/api"
	"signalbox/expr"
	"signalbox/parse"
	"signalbox/scope"
	"signalbox/token"
)

// head declares one of each: classes r and q, semaphore s, shared v, w and the array sa, variables x and y and the array a,
// procedures f of none and g of two, which has the locals a, b, c.
const head = "program p; resource r 3; resource q 3; semaphore s 0; shared v; shared w; shared sa[2]; var x; var y; var a[3]; " +
	"procedure f(); begin skip end; procedure g(a, b); var c; begin skip end; "

// check checks a source in which `|` stands where the fault is; without one nothing is wrong.
func check(t *testing.T, src string, c api.Code) {
	t.Helper()
	want := api.Fault{}
	if at := strings.IndexByte(src, '|'); at >= 0 {
		src = src[:at] + src[at+1:]
		want = api.Fault{Code: c, At: at}
	}
	s, f := parse.Parse([]byte(src))
	if f.Code != api.OK {
		t.Fatalf("%q: %v", src, f)
	}
	table, f := scope.Build(s)
	if f.Code != api.OK {
		t.Fatalf("%q: %v", src, f)
	}
	if f := Check(s, table); f != want {
		t.Errorf("%q: %v; want %v", src[len(head):], f, want)
	}
}

// body checks statements of the program's own body.
func body(t *testing.T, c api.Code, stmts ...string) {
	t.Helper()
	for _, src := range stmts {
		check(t, head+"begin "+src+" end.", c)
	}
}

// in checks statements of a procedure that has the locals l, x, f, r, s, v, a.
func in(t *testing.T, c api.Code, stmts ...string) {
	t.Helper()
	for _, src := range stmts {
		check(t, head+"procedure h(l, x, f, r); var s; var v; var a; begin "+src+" end; begin skip end.", c)
	}
}

// P27.1: nothing is wrong.
func TestNothingWrong(t *testing.T) {
	body(t, api.OK, "skip", "x := 1", "x := y + a[x] * -a[a[0]] - 5 / 2 % 3", "a[x] := a[y]", "if x = 1 then skip fi", "while not (x < 1 or y > 2 and true) do skip od", "f(); g(1, x)", "cobegin f() // g(1, 2) claims r 1, q 3 coend", "P(s); V(s)",
		"region v do v := v + x od", "region v when v > 0 do skip od", "region v when v > 0 and not (v = 3) do region w do w := v od od", "region sa when sa[0] = sa[sa[1]] do sa[1] := 2 od", "request r 1; release r 1000, q 2", "read x; read a[x]; write a[1]",
		"region v do read v; write v od", "region w do region v when v <> 1 do w := v od; region v do skip od od; region w do skip od", "region sa do read sa[sa[0]] od")
	in(t, api.OK, "l := x; x := f; f := r; r := s; s := v; v := a; read v; write a", "region w when w > v do w := l od", "g(l, v)", "skip")
	check(t, head+"claims r 1, q 1000; begin skip end.", api.OK)
}

// P27.2: names in expressions.
func TestNames(t *testing.T) {
	body(t, api.EName, "write |z", "write 1 + |z", "write |z[1]", "write a[|z]", "write |p", "write -|z", "g(1, |z)", "cobegin g(1, |z) coend", "if |z = 1 then skip fi", "write |b", "write |c")
	body(t, api.EKind, "write |a", "write |x[1]", "write |r", "write |s", "write |f", "write |r[1]", "write |f[1]", "write |sa", "region v do write |v[1] od", "region sa do write |sa od", "write a[|a]")
	body(t, api.EShared, "write |v", "write |sa[1]", "write |sa[z]", "region w do write |v od", "region v do skip od; write |v", "region v when |w > 0 do skip od", "region v do region w do write |sa[1] od od", "write a[|v]")
	in(t, api.EKind, "write |l[1]", "write |a[1]", "write |v[1]")
	in(t, api.EName, "write |z", "write |b")
	in(t, api.EKind, "write |g", "write |h", "write |q")
}

// P27.2: an array of one element is an array; each sign makes a truth.
func TestArraysOfOneAndSigns(t *testing.T) {
	one := "program p; var one[1]; shared so[1];" + strings.Repeat(" ", len(head)) + "begin "
	check(t, one+"one[0] := one[0]; region so when so[0] > 0 do skip od end.", api.OK)
	check(t, one+"|one := 1 end.", api.EKind)
	check(t, one+"write |one end.", api.EKind)
	for _, sign := range []string{"=", "<>", "<", "<=", ">", ">="} {
		body(t, api.OK, "if x "+sign+" 1 then skip fi")
		body(t, api.EType, "x := x |"+sign+" 1", "if x "+sign+" |true then skip fi")
	}
	for _, sign := range []string{"+", "-", "*", "/", "%"} {
		body(t, api.OK, "x := x "+sign+" 1")
		body(t, api.EType, "if x |"+sign+" 1 then skip fi", "x := x "+sign+" |true")
	}
	for _, word := range []string{"and", "or"} {
		body(t, api.EType, "x := true |"+word+" true", "if true "+word+" |1 then skip fi")
	}
}

// P27.2: within a condition.
func TestConditions(t *testing.T) {
	body(t, api.EWait, "region v when |x > 0 do skip od", "region v when v > |x do skip od", "region v when |a[1] > 0 do skip od", "region w do region v when |w > 0 do skip od od", "region sa when sa[|x] > 0 do skip od", "region w do region v when v > |w do skip od od")
	in(t, api.EWait, "region w when |y > 0 do skip od")
	in(t, api.OK, "region w when x > 0 and v > l and a > w do skip od")
	// Behind the condition all may be named again.
	body(t, api.OK, "region v when v > 0 do v := x od", "region v when v > 0 do if x > 0 then skip fi od")
	body(t, api.EKind, "region v when |v[1] > 0 do skip od", "region v when |a > 0 do skip od", "region sa when |sa > 0 do skip od")
	body(t, api.EShared, "region v when |sa[x] > 0 do skip od")
}

// P27.2: types.
func TestTypes(t *testing.T) {
	body(t, api.EType, "x := |true", "x := (1 |= 2)", "write -|true", "write 1 + |true", "write |true + 1", "write |true + false", "if |x then skip fi", "if 1 |+ 2 then skip fi", "while |x do skip od", "write a[|true]",
		"a[|true] := 1", "a[1] := |not true", "a[|true] := true", "g(1, |true)", "g(|true, z)", "cobegin g(|true, 1) coend", "region v when |v do skip od", "read a[|true]", "write |true", "if not |x then skip fi", "if true and |x then skip fi", "if |x or y then skip fi",
		"if |true = 1 then skip fi", "if 1 = |true then skip fi", "if 1 < (2 |< 3) then skip fi", "write a[1 |= 2]", "x := |not true", "x := 1 + (|not true)", "while |-1 do skip od",
		"while |a[1] do skip od", "region v when |1 do skip od", "x := x |< 1", "if |1 and z then skip fi", "write 1 * (true |or false)", "if not (|x) then skip fi")
	// A Sub's own faults go ahead of its type; the left one ahead of the right one.
	body(t, api.EName, "write 1 + (|z + true)", "write -|z", "if not |z then skip fi", "x := |z < 1", "write |z + true", "if |z and 1 then skip fi")
	body(t, api.EType, "write |true + z", "write a[|true] + z", "write -(|true + z)")
}

// P27.3: statements, and in which order their faults are met.
func TestStatements(t *testing.T) {
	body(t, api.EName, "|z := true", "|z[true] := 1", "|z()", "cobegin |z() coend", "|P(z)", "|V(z)", "|region z do skip od", "|read z", "|read z[true]", "request |z 1", "release r 1, |z 1", "cobegin f() claims |z 1 coend", "|z(zz)", "|p()")
	body(t, api.EKind, "|a := 1", "|r := 1", "|s := true", "|f := 1", "|x[1] := 1", "|f[1] := 1", "|x()", "|r()", "|s(1)", "cobegin |x() coend", "|P(x)", "|V(r)", "|P(f)", "|region x do skip od", "|region r do skip od", "|region a do skip od", "|region f when z do skip od",
		"|read a", "|read x[1]", "|read f", "request |x 1", "release |s 1", "request |f 1", "request |v 1", "|sa := 1", "|read sa")
	body(t, api.ECount, "|f(1)", "|g()", "|g(1)", "|g(1, 2, 3)", "|g(z)", "cobegin |g(1) coend", "cobegin f() // |f(1) claims z 1 coend")
	body(t, api.EShared, "|v := z", "|sa[z] := 1", "|read v", "|read sa[z]", "region v do |region v do skip od od", "region v do region w do |region v when z do skip od od od", "region w do |v := 1 od", "region v do if true then |region v do skip od fi od")
	in(t, api.EKind, "|x()", "|f()", "|P(s)", "|V(s)", "request |r 1", "release |r 1", "|region v do skip od", "cobegin |f() coend", "cobegin g(1, 2) claims |r 1 coend", "|region x do skip od", "|a[1] := 1", "|v[1] := 1", "|read a[1]", "|l()")
	in(t, api.OK, "request q 1", "g(f, r)", "region w do v := 2 od")
}

// P27.3: from the left.
func TestOrder(t *testing.T) {
	body(t, api.EName, "if |z = 1 then y := true fi; x := true", "if true then |z := 1 else zz := 1 fi", "if true then skip else |z := 1 fi; zz := 1", "while true do |z := 1 od", "region v do |z := 1 od", "region v when |z do zz := 1 od", "a[|z] := zz", "g(|z, zz)",
		"cobegin g(|z, 1) claims zz 1 coend", "cobegin g(1, 1) claims |z 1 // zz() coend", "read a[|z]", "x := 1; |z := 1; zz := 1")
	check(t, head+"procedure h(); begin |z := 1 end; procedure i(); begin zz := 1 end; claims zzz 1; begin zz := 1 end.", api.EName)
	check(t, head+"claims |z 1; begin zz := 1 end.", api.EName)
	check(t, head+"procedure h(r); begin skip end; claims r 1, |r 1; begin zz := 1 end.", api.ETwice)
}

// P27.3: items.
func TestItems(t *testing.T) {
	for _, words := range [][2]string{{"request ", ""}, {"release ", ""}, {"cobegin f() claims ", " coend"}} {
		body(t, api.ETwice, words[0]+"r 1, |r 1"+words[1], words[0]+"r 1, q 2, |r 0"+words[1])
		body(t, api.EUnits, words[0]+"|r 0"+words[1], words[0]+"r 1, |q 1001, r 1"+words[1], words[0]+"|r 0, z 1"+words[1])
		body(t, api.EKind, words[0]+"r 1, |x 0"+words[1])
		body(t, api.EName, words[0]+"|z 0, r 0"+words[1])
		body(t, api.OK, words[0]+"r 1000, q 1"+words[1])
		classes := "program p; resource a 1; resource b 1; resource c 1; resource d 1; resource e 1; resource g 1; procedure f(); begin skip end; begin "
		classes += strings.Repeat(" ", max(0, len(head)-len(classes)))
		check(t, classes+words[0]+"a 1, b 1, c 1, d 1, e 1, g 1"+words[1]+" end.", api.OK)
		check(t, classes+words[0]+"a 1, b 1, c 1, d 1, e 1, g 1, |z 0"+words[1]+" end.", api.EMany)
		check(t, classes+words[0]+"a 1, b 1, c 1, d 1, e 1, g 1, |a 1, b 1"+words[1]+" end.", api.EMany)
	}
	check(t, head+"claims r 1, |q 0; begin skip end.", api.EUnits)
}

// P27.3: how many branches.
func TestBranches(t *testing.T) {
	eight := strings.Repeat("f() // ", 7) + "f()"
	body(t, api.OK, "cobegin "+eight+" coend")
	body(t, api.EMany, "cobegin "+eight+" // |z() coend", "cobegin "+eight+" // |f() // f() coend")
	body(t, api.EName, "cobegin "+strings.Repeat("f() // ", 7)+"|z() // f() coend")
}

// P27.4: types of expressions that stand somewhere.
func TestType(t *testing.T) {
	s, _ := parse.Parse([]byte(head + "procedure h(l, x); var v; begin skip end; begin skip end."))
	table, _ := scope.Build(s)
	for _, r := range []struct {
		proc, kind int
		src        string
		c          api.Code
		at         int
	}{
		{0, 1, "x + 1", 0, 0}, {0, 2, "x = 1", 0, 0}, {0, 2, "not true", 0, 0}, {0, 1, "-x", 0, 0}, {0, 1, "a[1]", 0, 0}, {0, 2, "true", 0, 0}, {0, 1, "5", 0, 0}, {0, 2, "true and false or true", 0, 0}, {0, 0, "l", api.EName, 0}, {3, 1, "l", 0, 0}, {3, 1, "v", 0, 0},
		{0, 0, "1 + v", api.EShared, 4}, {2, 1, "a + b * c", 0, 0}, {1, 0, "1 < a", api.EKind, 4}, {4, 0, "l", api.EName, 0}, {-1, 0, "l", api.EName, 0}, {4, 1, "x", 0, 0}, {api.Least, 1, "a[x]", 0, 0}, {api.Most, 1, "x % 2", 0, 0}, {3, 0, "a[true]", api.EType, 2},
		{0, 0, "1 + true", api.EType, 4}, {3, 2, "l >= v", 0, 0}, {0, 0, "x or y", api.EType, 0},
	} {
		l, _ := token.All([]byte(r.src))
		x, _, f := expr.Parse(l, 0, 1)
		if f.Code != api.OK {
			t.Fatal(r.src, f)
		}
		if kind, f := Type(s, table, r.proc, x); kind != r.kind || f != (api.Fault{Code: r.c, At: r.at}) {
			t.Errorf("%s in %d: %d, %v", r.src, r.proc, kind, f)
		}
	}
}

// P27.5: a shared variable is touched within its region alone.
func TestSharedWithinAlone(t *testing.T) {
	uses := []string{"v := 1", "read v", "write v", "x := v", "if v = 1 then skip fi", "while v = 1 do skip od", "g(v, 1)", "a[v] := 1", "read a[v]", "cobegin g(v, 1) coend"}
	for _, use := range uses {
		body(t, api.OK, "region v do "+use+" od", "region w do region v do if true then "+use+" fi od od")
		s, _ := parse.Parse([]byte(head + "begin region w do " + use + " od end."))
		table, _ := scope.Build(s)
		if f := Check(s, table); f.Code != api.EShared {
			t.Errorf("%s: %v", use, f)
		}
	}
}

// P27.1, P27.4 (rule 10): of other sources and tables the calls end.
func TestAnything(t *testing.T) {
	s, _ := parse.Parse([]byte(head + "begin region v when v > 0 do x := a[1] od end."))
	other, _ := scope.Build(api.Source{})
	table, _ := scope.Build(s)
	Check(s, other)
	Check(s, nil)
	for kind := -1; kind < 18; kind++ {
		for n := range 3 {
			stmt := api.Stmt{Kind: kind, Name: "v", E: make([]api.Expr, n), Body: make([]api.Stmt, n), Branches: make([]api.Branch, n), Items: make([]api.Item, n)}
			Check(api.Source{Body: []api.Stmt{stmt}, Procs: []api.Proc{{Body: []api.Stmt{stmt}}}}, table)
			Type(s, table, 0, api.Expr{Kind: kind, Op: 5 * n, Name: "a", Sub: make([]api.Expr, n)})
		}
	}
}
