package code

import (
	"bytes"
	"slices"
	"testing"

	"signalbox/api"
)

// full is a program in which each list has something.
func full() api.Program {
	return api.Program{
		Code:    []api.Instr{{Op: api.Push, A: -2}, {Op: api.Await, A: 1, B: 7}, {Op: api.Least, A: api.Most, B: 0}},
		Procs:   []api.Entry{{}, {At: 2, Params: 1, Locals: 3}},
		Vars:    []api.Cell{{Base: 0, Size: 3}, {Base: 3}},
		Regions: 5,
		Semas:   []int{1, 0},
		Totals:  []int{4, 5},
		Vectors: [][]int{{0, 1}, {-1, 258}},
		Forks:   []api.Spawn{{Proc: 1, Claim: 1}},
		Claim:   1,
	}
}

// least is the smallest program that may be.
func least() api.Program {
	return api.Program{Procs: []api.Entry{{}}}
}

func encoded(t *testing.T, p api.Program) []byte {
	t.Helper()
	b, c := Encode(p)
	if c != api.OK {
		t.Fatal("Encode:", c)
	}
	return b
}

func num(x byte) []byte {
	return []byte{x, 0, 0, 0, 0, 0, 0, 0}
}

// P6.2: the bytes, one by one.
func TestBytes(t *testing.T) {
	minus := func(x byte) []byte { return []byte{x, 255, 255, 255, 255, 255, 255, 255} }
	want := slices.Concat([]byte("SB"),
		[]byte{3, 0}, num(2), minus(254), num(0), num(33), num(1), num(7), []byte{0, 0, 0, 0, 0, 0, 0, 128}, []byte{255, 255, 255, 255, 255, 255, 255, 127}, num(0),
		[]byte{2, 0}, num(0), num(0), num(0), num(2), num(1), num(3),
		[]byte{2, 0}, num(0), num(3), num(3), num(0),
		num(5),
		[]byte{2, 0}, num(1), num(0),
		[]byte{2, 0}, num(4), num(5),
		[]byte{2, 0}, num(0), num(1), minus(255), []byte{2, 1, 0, 0, 0, 0, 0, 0},
		[]byte{1, 0}, num(1), num(1),
		num(1))
	if got := encoded(t, full()); !bytes.Equal(got, want) {
		t.Errorf("got %v\nwant %v", got, want)
	}
	want = slices.Concat([]byte("SB"), []byte{0, 0}, []byte{1, 0}, num(0), num(0), num(0), []byte{0, 0}, num(0), []byte{0, 0, 0, 0, 0, 0, 0, 0}, num(0))
	if got := encoded(t, least()); !bytes.Equal(got, want) {
		t.Errorf("got %v\nwant %v", got, want)
	}
}

// brinks are programs that just may be, and (behind one element more) may not.
func brinks() (fit, over []api.Program) {
	change := func(n, more int, f func(p *api.Program, n int)) {
		a, b := least(), least()
		f(&a, n)
		f(&b, n+more)
		fit, over = append(fit, a), append(over, b)
	}
	change(api.MaxInstrs, 1, func(p *api.Program, n int) { p.Code = make([]api.Instr, n) })
	change(api.MaxProcs+1, 1, func(p *api.Program, n int) { p.Procs = make([]api.Entry, n) })
	change(1, -1, func(p *api.Program, n int) { p.Procs = make([]api.Entry, n) })
	change(api.MaxVars, 1, func(p *api.Program, n int) { p.Vars = make([]api.Cell, n) })
	change(api.MaxSemas, 1, func(p *api.Program, n int) { p.Semas = make([]int, n) })
	change(api.MaxClasses, 1, func(p *api.Program, n int) { p.Totals = make([]int, n) })
	change(api.MaxTables, 1, func(p *api.Program, n int) { p.Vectors = make([][]int, n) })
	change(api.MaxTables, 1, func(p *api.Program, n int) { p.Forks = make([]api.Spawn, n) })
	change(2, 1, func(p *api.Program, n int) { p.Totals, p.Vectors = make([]int, 2), [][]int{{1, 2}, make([]int, n)} })
	change(2, -1, func(p *api.Program, n int) { p.Totals, p.Vectors = make([]int, 2), [][]int{make([]int, n)} })
	return fit, over
}

// P6.1, P6.2, P6.3: what may be is read as it was; of what may not be there are no bytes.
func TestBrinks(t *testing.T) {
	fit, over := brinks()
	for i, p := range fit {
		if !May(p) {
			t.Errorf("%d: may not", i)
		}
		if q, c := Decode(encoded(t, p)); c != api.OK || !Same(p, q) {
			t.Errorf("%d: read as something else: %d", i, c)
		}
	}
	for i, p := range over {
		b, c := Encode(p)
		if May(p) || b != nil || c != api.ErrArg {
			t.Errorf("%d: %v, %d bytes, %d", i, May(p), len(b), c)
		}
	}
	if May(api.Program{}) {
		t.Error("a program without procedures may be")
	}
}

// P6.2: bytes of lists that are too long, or of vectors of another length, are none.
func TestDecodeRefusesLongLists(t *testing.T) {
	for i, at := range []int{2, 4, 30, 40, 42, 44, 46} {
		b := encoded(t, least())
		most := []int{api.MaxInstrs, api.MaxProcs + 1, api.MaxVars, api.MaxSemas, api.MaxClasses, api.MaxTables, api.MaxTables}[i]
		row := []int{24, 24, 16, 8, 8, 0, 16}[i]
		have := int(b[at])
		for _, n := range []int{most, most + 1} {
			l := slices.Clone(b)
			l[at], l[at+1] = byte(n), byte(n>>8)
			l = slices.Insert(l, at+2, make([]byte, row*(n-have))...)
			if _, c := Decode(l); (c == api.OK) != (n == most) {
				t.Errorf("list %d of %d: %d", i, n, c)
			}
		}
	}
}

// P6.2: no other bytes are a program's: all that are shorter or longer, and any other head.
func TestDecodeRefuses(t *testing.T) {
	b := encoded(t, full())
	for n := range b {
		if p, c := Decode(b[:n]); c != api.ErrBytes || !Same(p, api.Program{}) {
			t.Errorf("%d bytes: %d", n, c)
		}
	}
	for _, l := range [][]byte{nil, append(slices.Clone(b), 0), append([]byte("SC"), b[2:]...), append([]byte("sB"), b[2:]...), append([]byte{'S'}, b...), {'S', 'B', 255, 255}} {
		if _, c := Decode(l); c != api.ErrBytes {
			t.Errorf("%v: %d", l, c)
		}
	}
	// No procedure.
	l := slices.Concat([]byte("SB"), make([]byte, 2+2+2+8+2+2+2+2+8))
	if _, c := Decode(l); c != api.ErrBytes {
		t.Error("without procedures:", c)
	}
}

// P6.3: whatever is read is written as it was: each byte counts.
func TestEachByteCounts(t *testing.T) {
	b := encoded(t, full())
	for i := range b {
		for _, x := range []byte{1, 2, 128, 255} {
			l := slices.Clone(b)
			l[i] ^= x
			p, c := Decode(l)
			if c == api.OK && (Same(p, full()) || !bytes.Equal(encoded(t, p), l)) {
				t.Errorf("byte %d: read as %v", i, p)
			}
		}
	}
}

// P6.1: Same sees each number.
func TestSame(t *testing.T) {
	if !Same(full(), full()) || !Same(api.Program{}, api.Program{Code: []api.Instr{}, Vectors: [][]int{}}) {
		t.Error("a program is not the same as itself")
	}
	if !Same(api.Program{Vectors: [][]int{nil}}, api.Program{Vectors: [][]int{{}}}) {
		t.Error("nil is not the same as an empty list")
	}
	for i, turn := range []func(p *api.Program){
		func(p *api.Program) { p.Code[0].Op++ }, func(p *api.Program) { p.Code[1].A++ }, func(p *api.Program) { p.Code[2].B++ },
		func(p *api.Program) { p.Procs[1].At++ }, func(p *api.Program) { p.Procs[1].Params++ }, func(p *api.Program) { p.Procs[1].Locals++ },
		func(p *api.Program) { p.Vars[0].Base++ }, func(p *api.Program) { p.Vars[1].Size++ }, func(p *api.Program) { p.Regions++ },
		func(p *api.Program) { p.Semas[1]++ }, func(p *api.Program) { p.Totals[0]++ }, func(p *api.Program) { p.Vectors[1][1]++ },
		func(p *api.Program) { p.Forks[0].Proc++ }, func(p *api.Program) { p.Forks[0].Claim++ }, func(p *api.Program) { p.Claim++ },
		func(p *api.Program) { p.Code = p.Code[:2] }, func(p *api.Program) { p.Procs = p.Procs[:1] }, func(p *api.Program) { p.Vars = nil },
		func(p *api.Program) { p.Semas = p.Semas[:1] }, func(p *api.Program) { p.Totals = append(p.Totals, 0) }, func(p *api.Program) { p.Vectors = p.Vectors[:1] },
		func(p *api.Program) { p.Vectors[0] = p.Vectors[0][:1] }, func(p *api.Program) { p.Forks = nil },
	} {
		p := full()
		turn(&p)
		if Same(p, full()) || Same(full(), p) {
			t.Errorf("%d: the same", i)
		}
		if May(p) && bytes.Equal(encoded(t, p), encoded(t, full())) {
			t.Errorf("%d: the same bytes", i)
		}
	}
}

// P6.2 (rule 3): what is handed in is left alone, what is told is new memory.
func TestMemory(t *testing.T) {
	b := encoded(t, full())
	kept := slices.Clone(b)
	p, _ := Decode(b)
	for i := range b {
		b[i] = 0
	}
	if !Same(p, full()) {
		t.Error("a program keeps the bytes")
	}
	p, _ = Decode(kept)
	p.Vectors[0] = append(p.Vectors[0], 9)
	if !slices.Equal(p.Vectors[1], full().Vectors[1]) {
		t.Error("two vectors share their memory")
	}
}
