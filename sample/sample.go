// Package sample makes sources, picks and inputs for tests: the same number makes the same ones. What it makes, the
// front end accepts.
package sample

import (
	"strconv"
	"strings"

	"signalbox/api"
)

// Rand makes numbers that look like chance.
type Rand uint32

// Below is the next number, 0 to n - 1.
func (r *Rand) Below(n int) int {
	*r = *r*1664525 + 1013904223
	return int(*r>>8) % n
}

// of is one of l.
func (r *Rand) of(l ...string) string {
	return l[r.Below(len(l))]
}

// Numbers are n numbers, some of them below 0 or great.
func Numbers(seed, n int) []int {
	r := Rand(seed)
	var l []int
	for range n {
		x := r.Below(1000)
		if x%17 == 0 {
			x = -x
		}
		l = append(l, x)
	}
	return l
}

// Source makes a source.
func Source(seed int) []byte {
	for size := 5; ; size-- {
		w := writer{Rand: Rand(seed), size: size}
		if src := w.program(); len(src) <= api.MaxSource {
			return []byte(src)
		}
	}
}

// proc is a procedure: how many parameters and other locals it has. A local's name tells its number alone, and one of
// them has a name that hides a variable.
type proc struct {
	name         string
	params, vars int
}

// writer writes a source.
type writer struct {
	Rand
	size   int // how many statements a list may have
	procs  []proc
	here   int      // the procedure that is written; -1: the program's own body
	within []string // the shared variables in whose regions it stands
}

// local is the name of a procedure's n-th local.
func local(n int) string {
	return [...]string{"x", "l", "k", "h"}[n]
}

// digit is one of 0 to n - 1 as a text.
func (w *writer) digit(n int) string {
	return strconv.Itoa(w.Below(n))
}

// program writes all.
func (w *writer) program() string {
	var b strings.Builder
	b.WriteString("program p; resource r " + strconv.Itoa(2+w.Below(4)) + "; resource q " + strconv.Itoa(2+w.Below(2)) + "; ")
	b.WriteString("semaphore s " + w.digit(3) + "; semaphore m 1; shared v; shared w[3]; shared u; var x; var y; var a[4];\n")
	for i := range 1 + w.Below(4) {
		w.procs = append(w.procs, proc{"f" + strconv.Itoa(i), w.Below(3), w.Below(3)})
	}
	for i, p := range w.procs {
		w.here = i
		b.WriteString("procedure " + p.name + "(")
		for n := range p.params {
			b.WriteString([2]string{"", ", "}[min(n, 1)] + local(n))
		}
		b.WriteString("); ")
		for n := range p.vars {
			b.WriteString("var " + local(p.params+n) + "; ")
		}
		b.WriteString("begin\n" + w.stmts(2) + "end;\n")
	}
	w.here = -1
	b.WriteString(w.claims())
	b.WriteString("begin\n" + w.stmts(3) + "end.\n")
	return b.String()
}

// claims writes what the program claims.
func (w *writer) claims() string {
	if w.Below(5) == 0 {
		return ""
	}
	return "claims " + w.claim() + ";\n"
}

// claim writes so many units that may be claimed; seldom there are not so many, or too few for what is asked.
func (w *writer) claim() string {
	if w.Below(8) == 0 {
		return w.of("r 9", "q 4, r 1", "r 1", "q 1", w.items())
	}
	return "r 2, q " + strconv.Itoa(1+w.Below(2))
}

// items writes so many units of one class or two.
func (w *writer) items() string {
	return w.of("r 1", "r 1", "q 1", "r 2", "r 1, q 1", "q 2, r 1")
}

// hides says whether a local hides the variable x.
func (w *writer) hides() bool {
	return w.here >= 0 && w.procs[w.here].params+w.procs[w.here].vars > 0
}

// name is the name of a local, or of a variable that is no array and may be touched here.
func (w *writer) name() string {
	l := []string{"x", "y"}
	if w.here >= 0 {
		for n := range w.procs[w.here].params + w.procs[w.here].vars {
			l = append(l, local(n))
		}
	}
	for _, v := range w.within {
		if v != "w" {
			l = append(l, v)
		}
	}
	return w.of(l...)
}

// array is the name of an array that may be touched here.
func (w *writer) array() string {
	for _, v := range w.within {
		if v == "w" && w.Below(2) == 0 {
			return v
		}
	}
	return "a"
}

// number writes a number.
func (w *writer) number(depth int) string {
	if depth == 0 {
		return w.of(w.digit(5), w.name(), w.name(), w.of("1", "2", "3", w.of("4", "9223372036854775807")))
	}
	x, y := w.number(depth-1), w.number(depth-1)
	return w.of(x, x, w.name(), w.array()+"["+w.index()+"]", "-"+x, "("+x+" "+w.of("+", "+", "-", "*", w.of("+", "/", "%"))+" "+y+")", "("+x+" + "+y+")")
}

// index writes an index that is seldom beyond.
func (w *writer) index() string {
	if w.Below(12) == 0 {
		return w.name()
	}
	return w.digit(3)
}

// truth writes a truth of numbers that number writes.
func (w *writer) truth(depth int, number func() string) string {
	if depth == 0 || w.Below(3) > 0 {
		return number() + " " + w.of("<", "<=", ">", ">=", "=", "<>") + " " + number()
	}
	x, y := w.truth(depth-1, number), w.truth(depth-1, number)
	return w.of("not ("+x+")", "("+x+" and "+y+")", "("+x+" or "+y+")", "true", "false")
}

// stmts writes statements, with blocks up to that depth.
func (w *writer) stmts(depth int) string {
	var l []string
	for range 1 + w.Below(w.size) {
		l = append(l, w.stmt(depth))
	}
	return strings.Join(l, ";\n") + "\n"
}

// stmt writes a statement.
func (w *writer) stmt(depth int) string {
	if depth > 0 && w.Below(3) == 0 {
		return w.block(depth - 1)
	}
	switch w.Below(15) {
	case 0, 1:
		return w.name() + " := " + w.number(2)
	case 2:
		return w.array() + "[" + w.index() + "] := " + w.number(1)
	case 3:
		return w.call(w.Below(len(w.procs)))
	case 4, 5:
		return w.fork()
	case 6:
		return w.of("P(s)", "P(m)")
	case 7, 8:
		return w.of("V(s)", "V(m)", "P(m); V(m)")
	case 9, 10:
		return "request " + w.items()
	case 11, 12:
		if w.Below(6) == 0 {
			return "release " + w.items()
		}
		items := w.items()
		return "request " + items + "; " + w.stmt(0) + "; release " + items
	case 13:
		return w.of("read "+w.name(), "read "+w.array()+"["+w.index()+"]")
	}
	return w.of("skip", "write "+w.number(2))
}

// call writes a call of a procedure.
func (w *writer) call(n int) string {
	var l []string
	for range w.procs[n].params {
		l = append(l, w.number(1))
	}
	return w.procs[n].name + "(" + strings.Join(l, ", ") + ")"
}

// fork writes a cobegin.
func (w *writer) fork() string {
	var l []string
	for range 1 + w.Below(3) {
		branch := w.call(w.Below(len(w.procs)))
		if w.Below(4) > 0 {
			branch += " claims " + w.claim()
		}
		l = append(l, branch)
	}
	return "cobegin " + strings.Join(l, " // ") + " coend"
}

// block writes a statement that has statements within.
func (w *writer) block(depth int) string {
	free := func() string { return w.number(1) }
	switch w.Below(6) {
	case 0:
		return "if " + w.truth(2, free) + " then\n" + w.stmts(depth) + "fi"
	case 1:
		return "if " + w.truth(2, free) + " then\n" + w.stmts(depth) + "else\n" + w.stmts(depth) + "fi"
	case 2:
		return "while y < " + w.digit(9) + " do y := y + 1;\n" + w.stmts(depth) + "od"
	case 3:
		return "while " + w.truth(1, free) + " do\n" + w.stmts(depth) + "od"
	}
	return w.region(depth)
}

// region writes a region of a shared variable in whose region it does not stand yet.
func (w *writer) region(depth int) string {
	v := w.of("v", "v", "w", "u")
	for _, other := range w.within {
		if other == v {
			return "skip"
		}
	}
	w.within = append(w.within, v)
	text := "region " + v
	if w.Below(2) == 0 {
		text += " when " + w.truth(1, func() string { return w.own(v) })
	}
	text += " do\n" + w.stmts(depth) + "od"
	w.within = w.within[:len(w.within)-1]
	return text
}

// own writes a number of what a condition of v's region may name.
func (w *writer) own(v string) string {
	if v == "w" {
		v = "w[" + w.digit(3) + "]"
	}
	if w.hides() && w.Below(3) == 0 {
		return "x"
	}
	return w.of(v, v, w.digit(3))
}
