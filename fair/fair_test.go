package fair

import (
	"slices"
	"testing"

	"signalbox/api"
	"signalbox/gen"
	"signalbox/machine"
	"signalbox/parse"
	"signalbox/pick"
	"signalbox/sample"
	"signalbox/scope"
	"signalbox/typing"
)

// made makes a machine of a source.
func made(t *testing.T, src []byte, claimed bool, input ...int) *machine.Machine {
	t.Helper()
	s, f := parse.Parse(src)
	if f.Code != api.OK {
		t.Fatalf("%s: %v", src, f)
	}
	table, f := scope.Build(s)
	if f.Code != api.OK || typing.Check(s, table).Code != api.OK {
		t.Fatalf("%s: %v, %v", src, f, typing.Check(s, table))
	}
	m, c := machine.New(gen.Program(s, table), claimed, api.Limits{Procs: 32, Stack: 200, Store: 8192}, input)
	if c != api.OK {
		t.Fatal(c)
	}
	return m
}

// P34.1: what is watched.
func TestWatch(t *testing.T) {
	src := []byte("program p; resource r 1; procedure f(); begin request r 1; skip; release r 1 end; begin cobegin f() claims r 1 // f() claims r 1 coend end.")
	want := []Step{
		{[]int{1}, nil, 1}, {[]int{1, 2}, nil, 2}, {[]int{1, 2}, []int{2}, 1}, {[]int{1, 2, 3}, []int{2}, 3}, {[]int{1, 2}, []int{2}, 1}, {[]int{2}, []int{2}, 2}, {[]int{2}, []int{2}, 2}, {[]int{2, 3}, []int{3}, 3}, {[]int{2, 3}, []int{3}, 2},
		{[]int{3}, []int{3}, 3}, {[]int{3}, nil, 3}, {[]int{1}, nil, 1},
	}
	got := Watch(made(t, src, true), []int{0, 1, 0, 2, 0, 0, 0, 1, 0, 0, 0, 0, 0, 0})
	if !slices.EqualFunc(got, want, func(a, b Step) bool {
		return slices.Equal(a.Ready, b.Ready) && slices.Equal(a.Holds, b.Holds) && a.Pid == b.Pid
	}) {
		t.Error(got)
	}
	m := made(t, src, true)
	if l := Watch(m, []int{0, 1}); len(l) != 2 || m.Steps() != 2 {
		t.Error(l)
	}
	if l := Watch(m, nil); len(l) != 0 {
		t.Error(l)
	}
	if l := Watch(nil, []int{0, 1}); len(l) != 0 {
		t.Error(l)
	}
	// A run that is over at the beginning, without a kernel.
	over, _ := machine.New(api.Program{Code: []api.Instr{{Op: api.Ret}}, Procs: []api.Entry{{}}, Vectors: [][]int{nil}}, true, api.Limits{Procs: 1, Stack: 1, Store: 0}, nil)
	if l := Watch(over, []int{0}); len(l) != 0 {
		t.Error(l)
	}
}

// slow is Fair, as its words say it.
func slow(k int, l []Step) bool {
	for from := 0; from+k <= len(l); from++ {
		for _, pid := range l[from].Ready {
			all, ran := true, false
			for _, s := range l[from : from+k] {
				all, ran = all && slices.Contains(s.Ready, pid), ran || s.Pid == pid
			}
			if all && !ran {
				return false
			}
		}
	}
	return k >= 1
}

// P34.2: fairness.
func TestFair(t *testing.T) {
	l := []Step{{Ready: []int{1, 2}, Pid: 1}, {Ready: []int{1, 2}, Pid: 1}, {Ready: []int{1, 2, 3}, Pid: 2}, {Ready: []int{1, 3}, Pid: 1}, {Ready: []int{3}, Pid: 3}}
	for k, want := range []bool{false, false, false, true, true, true, true} {
		if Fair(k, l) != want {
			t.Errorf("Fair(%d) is %v", k, !want)
		}
	}
	for _, k := range []int{api.Least, -1, 0} {
		if Fair(k, l) || Fair(k, nil) {
			t.Errorf("Fair(%d) is true", k)
		}
	}
	if !Fair(1, nil) || !Fair(api.Most, l) || !Fair(1, []Step{{Ready: []int{4}, Pid: 4}}) || Fair(1, []Step{{Ready: []int{4, 5}, Pid: 4}}) || !Fair(2, []Step{{Ready: []int{4, 5}, Pid: 4}}) || Fair(2, []Step{{Ready: []int{5, 5}, Pid: 4}, {Ready: []int{5}, Pid: 4}}) {
		t.Error("Fair of few steps")
	}
	if !Fair(2, []Step{{Ready: []int{5, 5}, Pid: 4}}) {
		t.Error("one that stands there twice")
	}
	seed := sample.Rand(4)
	fair := 0
	for range 2000 {
		var l []Step
		for range 1 + seed.Below(8) {
			s := Step{Pid: seed.Below(3)}
			for pid := range 3 {
				if seed.Below(4) > 0 {
					s.Ready = append(s.Ready, pid)
				}
			}
			l = append(l, s)
		}
		k := 1 + seed.Below(5)
		if Fair(k, l) != slow(k, l) {
			t.Fatal(k, l)
		}
		if Fair(k, l) {
			fair++
		}
	}
	if fair < 200 || fair > 1800 {
		t.Error("too few of one kind:", fair)
	}
}

// P34.2: work in spells.
func TestWork(t *testing.T) {
	for i, r := range []struct {
		l    []Step
		want int
	}{
		{nil, 0}, {[]Step{{Pid: 1}}, 0}, {[]Step{{Holds: []int{2}, Pid: 1}}, 0}, {[]Step{{Holds: []int{1}, Pid: 1}}, 1},
		{[]Step{{Holds: []int{1}, Pid: 1}, {Holds: []int{1, 2}, Pid: 2}, {Holds: []int{1, 2}, Pid: 1}, {Holds: []int{2}, Pid: 1}, {Holds: []int{1, 2}, Pid: 2}, {Holds: []int{1, 2}, Pid: 2}}, 3},
		{[]Step{{Holds: []int{1}, Pid: 1}, {Pid: 1}, {Holds: []int{1}, Pid: 1}}, 1},
		{[]Step{{Holds: []int{1}, Pid: 1}, {Holds: []int{1}, Pid: 3}, {Holds: []int{1}, Pid: 1}}, 2},
	} {
		if got := Work(r.l); got != r.want {
			t.Errorf("%d: %d; want %d", i, got, r.want)
		}
	}
}

// P34.2: bounds.
func TestBound(t *testing.T) {
	for _, r := range []struct {
		k, b, n, r, want int
		ok               bool
	}{
		{2, 3, 4, 1, 30, true}, {0, 3, 4, 1, 0, true}, {2, 0, 4, 1, 0, true}, {2, 3, 0, 0, 0, true}, {-1, 3, 4, 1, 0, false}, {2, -1, 4, 1, 0, false}, {2, 3, -1, 1, 0, false}, {2, 3, 4, -1, 0, false}, {0, 0, -1, 0, 0, false}, {api.Least, 0, 0, 0, 0, false},
		{1, 1, 1<<31 - 1, 0, 1<<31 - 1, true}, {1, 1, 1<<31 - 1, 1, 0, false}, {1, 1, 1 << 31, 0, 0, false}, {1<<31 - 1, 1, 1, 0, 1<<31 - 1, true}, {1, 1<<31 - 1, 0, 1, 1<<31 - 1, true}, {1 << 16, 1 << 15, 1, 0, 0, false}, {1 << 15, 1 << 15, 1, 0, 1 << 30, true},
		{api.Most, api.Most, api.Most, api.Most, 0, false}, {0, api.Most, api.Most, api.Most, 0, true}, {api.Most, 0, api.Most, api.Most, 0, true}, {api.Most, api.Most, 0, 0, 0, true}, {1 << 32, 1 << 32, 1, 0, 0, false}, {1, 1, api.Most, api.Most, 0, false}, {46341, 46341, 1, 0, 0, false}, {46340, 46341, 1, 0, 2147441940, true},
	} {
		if got, ok := Bound(r.k, r.b, r.n, r.r); got != r.want || ok != r.ok {
			t.Errorf("Bound(%d, %d, %d, %d): %d, %v", r.k, r.b, r.n, r.r, got, ok)
		}
	}
}

// turns are n steps by turns, each time of the next one that is ready; with skew some are of others.
func turns(m *machine.Machine, n int, skew *sample.Rand) []Step {
	var l []Step
	last := 0
	for range n {
		place, _ := pick.Turn(m.Ready(), last)
		if skew != nil && skew.Below(3) == 0 {
			place = skew.Below(5)
		}
		step := Watch(m, []int{place})
		if len(step) == 0 {
			break
		}
		last = step[0].Pid
		l = append(l, step[0])
	}
	return l
}

// keepsBound: P34.3, of a run: how many asks that were blocked it has looked at.
func keepsBound(t *testing.T, m *machine.Machine, n int, skew *sample.Rand) int {
	t.Helper()
	pending := map[int]int{} // by step: how many others are pending when an ask is blocked
	live := 0
	var l []Step
	for range n {
		step := turns(m, 1, nil)
		if skew != nil {
			step = append(step, turns(m, 1, skew)...)
		}
		if len(step) == 0 {
			break
		}
		l = append(l, step...)
		live = max(live, m.Kernel().Procs().Live())
		pending[m.Steps()] = len(m.Kernel().Alloc().Pending()) - 1
		for _, pid := range m.Kernel().Alloc().Pids() {
			w := m.Kernel().Procs().Why(pid).Kind
			if w != 0 && w != api.WUnits && slices.ContainsFunc(m.Kernel().Alloc().Held(pid), func(x int) bool { return x > 0 }) {
				return 0 // one that holds something waits for something else: nothing is promised
			}
		}
	}
	if m.Status() == api.StLimit {
		return 0
	}
	k := 1
	for !Fair(k, l) {
		k++
	}
	looked := 0
	trace := m.Trace()
	for i, e := range trace {
		r, ok := pending[e.At]
		if e.Kind != api.EvBlock || e.A != api.WUnits || !ok {
			continue
		}
		bound, _ := Bound(k, max(Work(l), 1), live, r)
		granted := slices.IndexFunc(trace[i:], func(g api.Event) bool { return g.Kind == api.EvGrant && g.Pid == e.Pid })
		switch {
		case granted >= 0 && trace[i+granted].At-e.At > bound, granted < 0 && m.Steps()-e.At >= bound:
			t.Fatalf("an ask of step %d, with %d others: bound %d\n%v", e.At, r, bound, trace)
		case granted >= 0:
			looked++
		}
	}
	return looked
}

// P34.3: each ask is granted within the bound.
func TestGrantedWithinBound(t *testing.T) {
	looked := 0
	for _, src := range []string{
		"program p; resource r 3; procedure f(n); var i; begin while i < n do request r 1; request r 2; skip; release r 3; i := i + 1 od end; begin cobegin f(5) claims r 3 // f(7) claims r 3 // f(9) claims r 3 // f(3) claims r 3 coend end.",
		"program p; resource r 1; resource q 1; procedure f(); var i; begin while i < 6 do request r 1; request q 1; release r 1, q 1; i := i + 1 od end; procedure g(); var i; begin while i < 6 do request q 1; request r 1; release r 1, q 1; i := i + 1 od end; begin cobegin f() claims r 1, q 1 // g() claims r 1, q 1 // f() claims r 1, q 1 coend end.",
		"program p; resource r 5; procedure f(n); begin request r 1; f(n + 1); release r 1 end; procedure g(n); begin while true do request r 2; request r 1; skip; skip; release r 2; release r 1 od end; begin cobegin g(1) claims r 3 // g(2) claims r 4 // g(3) claims r 5 // g(4) claims r 3 // g(4) claims r 3 coend end.",
	} {
		looked += keepsBound(t, made(t, []byte(src), true), 600, nil)
		for seed := range 20 {
			skew := sample.Rand(seed)
			looked += keepsBound(t, made(t, []byte(src), true), 600, &skew)
		}
	}
	if looked < 500 {
		t.Error("too few asks:", looked)
	}
	for seed := range 600 {
		keepsBound(t, made(t, sample.Source(seed), true, 1, 2, 3, 4, 5, 6, 7), 400, nil)
	}
}
