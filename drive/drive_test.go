package drive

import (
	"bytes"
	"fmt"
	"slices"
	"strings"
	"testing"

	"signalbox/api"
	"signalbox/audit"
	"signalbox/code"
	"signalbox/event"
	"signalbox/machine"
	"signalbox/sample"
	"signalbox/script"
	"signalbox/verify"
)

func limits() api.Limits {
	return api.Limits{Procs: 8, Stack: 64, Store: 2000}
}

// job is a job of n picks of 0.
func job(claimed bool, n int, input ...int) api.Job {
	return api.Job{Claimed: claimed, Limits: limits(), Input: input, Picks: make([]int, n)}
}

func ev(at, kind, pid, a, b int) api.Event {
	return api.Event{At: at, Kind: kind, Pid: pid, A: a, B: b}
}

// is compares results as texts: an empty list is as none.
func is(t *testing.T, what string, got, want api.Result) {
	t.Helper()
	if g, w := fmt.Sprintf("%+v", got), fmt.Sprintf("%+v", want); g != w {
		t.Errorf("%s:\n got %s\nwant %s", what, g, w)
	}
}

func refusal(c api.Code, at int) api.Result {
	return api.Result{Status: api.StFault, Fault: api.Fault{Code: c, At: at}}
}

// faults are sources that the front end refuses, by each of its parts, and how.
func faults() map[string]api.Fault {
	return map[string]api.Fault{
		"":                             {Code: api.ESyntax, At: 0},
		"program p; begin ? end.":      {Code: api.EByte, At: 17},
		"program p; begin skip; end.":  {Code: api.ESyntax, At: 23},
		"program p; begin x := 1 end.": {Code: api.EName, At: 17},
		"program p; var x; var x; begin y := 1 end.":     {Code: api.ETwice, At: 22},
		"program p; resource r 0; begin y := 1 end.":     {Code: api.EUnits, At: 20},
		"program p; begin write true end.":               {Code: api.EType, At: 23},
		"program p; var x; begin write 1 +; x := z end.": {Code: api.ESyntax, At: 33},
		strings.Repeat(" ", 4097):                        {Code: api.EMany, At: 4096},
	}
}

// P35.1, P35.2, P35.3: a fault of the front end, and nothing else.
func TestFrontEnd(t *testing.T) {
	for src, want := range faults() {
		p, f := Compile([]byte(src))
		if f != want || !code.Same(p, api.Program{}) {
			t.Errorf("Compile(%q): %v; want %v", src, f, want)
		}
		if ok, f := Accept([]byte(src)); ok || f != want {
			t.Errorf("Accept(%q): %v, %v", src, ok, f)
		}
		for _, j := range []api.Job{{}, job(true, 5), job(false, 0, make([]int, 2000)...)} {
			is(t, src, Run([]byte(src), j), refusal(want.Code, want.At))
			is(t, src, Mean([]byte(src), j), refusal(want.Code, want.At))
			is(t, src, Play([]byte(src), []byte(script.Text(j))), refusal(want.Code, want.At))
		}
	}
}

// P35.1: programs that may be run.
func TestCompile(t *testing.T) {
	p, f := Compile([]byte("program p; begin write 1 end."))
	want := api.Program{Code: []api.Instr{{Op: api.Push, A: 1}, {Op: api.Write}, {Op: api.Ret}}, Procs: []api.Entry{{}}, Vectors: [][]int{{}}}
	if f != (api.Fault{}) || !code.Same(p, want) {
		t.Error(p, f)
	}
	for seed := range 300 {
		p, f := Compile(sample.Source(seed))
		if f != (api.Fault{}) {
			t.Fatal(seed, f)
		}
		if at, c := verify.Check(p); c != api.OK {
			t.Fatal(seed, at, c)
		}
	}
}

// P35.1: what the static checker accepts.
func TestAccept(t *testing.T) {
	for src, want := range map[string]bool{
		"program p; begin skip end.": true, "program p; resource r 1; claims r 1; begin request r 1 end.": true, "program p; resource r 1; begin request r 1 end.": false, "program p; resource r 1; claims r 2; begin skip end.": false,
	} {
		if ok, f := Accept([]byte(src)); ok != want || f != (api.Fault{}) {
			t.Errorf("%q: %v, %v", src, ok, f)
		}
	}
}

// P35.2: the document's example, and jobs that may not be.
func TestRun(t *testing.T) {
	src := []byte("program p; begin write 1 end.")
	want := api.Result{Status: api.StDone, Steps: 3, Trace: []api.Event{ev(2, api.EvWrite, 1, 1, 0), ev(3, api.EvEnd, 1, 0, 0), ev(3, api.EvStop, 0, api.StDone, 0)}}
	is(t, "Run", Run(src, job(true, 3)), want)
	is(t, "Mean", Mean(src, job(true, 3)), want)
	for _, l := range []api.Limits{{Procs: 0, Stack: 9, Store: 9}, {Procs: 33, Stack: 9, Store: 9}, {Procs: 1, Stack: 0, Store: 9}, {Procs: 1, Stack: 513, Store: 9}, {Procs: 1, Stack: 9, Store: -1}, {Procs: 1, Stack: 9, Store: 8193}} {
		j := job(true, 3)
		j.Limits = l
		is(t, "limits", Run(src, j), refusal(api.ErrArg, -1))
		is(t, "limits do not count", Mean(src, j), want)
	}
	is(t, "too much input", Run(src, job(true, 3, make([]int, 1001)...)), refusal(api.ErrArg, -1))
	is(t, "too much input", Mean(src, job(true, 3, make([]int, 1001)...)), refusal(api.ErrArg, -1))
	is(t, "much input", Run(src, job(true, 3, make([]int, 1000)...)), want)
	is(t, "much input", Mean(src, job(true, 3, make([]int, 1000)...)), want)
	out := api.Result{Status: api.StOut, Trace: []api.Event{ev(0, api.EvStop, 0, api.StOut, 0)}}
	is(t, "no picks", Run(src, job(true, 0)), out)
	is(t, "no picks", Mean(src, job(true, 0)), out)
	j := job(true, 3)
	j.Limits = api.Limits{Procs: 1, Stack: 2, Store: 2}
	is(t, "no room", Run(src, j), api.Result{Status: api.StLimit, Steps: 1, Trace: []api.Event{ev(1, api.EvTrap, 1, int(api.TStack), 0), ev(1, api.EvStop, 0, api.StLimit, 0)}})
}

// P35.3: scripts.
func TestPlay(t *testing.T) {
	src := []byte("program p; var x; begin read x; write x + 1 end.")
	text := "claimed\nlimits 4 64 900\ninput 7\npicks 0 0 0 0 0 0 0\n"
	want := api.Result{Status: api.StDone, Steps: 7, Trace: []api.Event{ev(6, api.EvWrite, 1, 8, 0), ev(7, api.EvEnd, 1, 0, 0), ev(7, api.EvStop, 0, api.StDone, 0)}}
	want.Trace[0].At = 6
	is(t, "Play", Play(src, []byte(text)), want)
	is(t, "unclaimed", Play(src, []byte("un"+text)), want)
	is(t, "limits", Play(src, []byte(strings.Replace(text, "4 64", "4 0", 1))), refusal(api.ErrArg, -1))
	for line, bad := range []string{"", "", "claimed\nlimits 4 64\n", "claimed\nlimits 4 64 900\nput\n", "claimed\nlimits 4 64 900\ninput 7\npicks", text + "\n"} {
		for _, s := range [][]byte{src, []byte("?")} {
			is(t, bad, Play(s, []byte(bad)), refusal(api.ErrLine, max(line, 1)))
		}
	}
}

// The document's first example: two that each ask for one of two units, and for the other one then.
func TestTwoThatAsk(t *testing.T) {
	src := []byte("program p; resource r 2; procedure f(); begin request r 1; request r 1; release r 2 end; begin cobegin f() claims r 2 // f() claims r 2 coend end.")
	picks := []int{0, 0, 0, 0, 1, 0, 1, 0, 0, 0, 0, 0, 0, 0, 0, 0}
	r := Run(src, api.Job{Claimed: true, Limits: limits(), Picks: picks})
	want := []api.Event{
		ev(3, api.EvBlock, 1, api.WJoin, 0), ev(4, api.EvGrant, 2, 1, 0), ev(5, api.EvBlock, 3, api.WUnits, 1), ev(6, api.EvGrant, 2, 1, 0), ev(7, api.EvGrant, 3, 1, 0),
		ev(8, api.EvEnd, 2, 0, 0), ev(9, api.EvGrant, 3, 1, 0), ev(11, api.EvEnd, 3, 0, 0), ev(12, api.EvEnd, 1, 0, 0), ev(12, api.EvStop, 0, api.StDone, 0),
	}
	is(t, "claimed", r, api.Result{Status: api.StDone, Steps: 12, Trace: want})
	r = Run(src, api.Job{Limits: limits(), Picks: picks})
	want = []api.Event{
		ev(3, api.EvBlock, 1, api.WJoin, 0), ev(4, api.EvGrant, 2, 1, 0), ev(5, api.EvGrant, 3, 1, 0), ev(6, api.EvBlock, 2, api.WUnits, 1), ev(7, api.EvBlock, 3, api.WUnits, 1), ev(7, api.EvStop, 0, api.StDead, 0),
	}
	is(t, "unclaimed", r, api.Result{Status: api.StDead, Steps: 7, Trace: want, Blocked: []int{1, 2, 3}})
	p, _ := Compile(src)
	m, _ := machine.New(p, false, limits(), nil)
	for _, pick := range picks {
		stuck := audit.Deadlocks(m.Kernel())
		if (len(stuck) > 0) != (m.Status() == api.StDead) {
			t.Error(m.Steps(), stuck)
		}
		m.Step(pick)
	}
	if l := audit.Deadlocks(m.Kernel()); !slices.Equal(l, []int{2, 3}) {
		t.Error(l)
	}
}

// The document's second example: both wait till a third one has made it 1; the first one goes on.
func TestRegionExample(t *testing.T) {
	src := []byte("program p; shared v; procedure f(n); begin region v when v > 0 do v := v - 1 od; write n end; procedure g(); begin region v do v := 1 od end; begin cobegin f(5) // f(6) // g() coend end.")
	j := job(true, 80)
	for _, r := range []api.Result{Run(src, j), Mean(src, j)} {
		if !slices.Equal(event.Outputs(r.Trace), []int{5}) || r.Status != api.StDead || !slices.Equal(r.Blocked, []int{1, 3}) {
			t.Error(r)
		}
	}
}

// The document's third example: the third step is a trap of that process; the others go on.
func TestTrapExample(t *testing.T) {
	src := []byte("program p; var x; procedure f(); begin x := 1 / 0; write 9 end; procedure g(); begin write 4 end; begin cobegin f() // g() coend end.")
	r := Run(src, job(true, 40))
	want := []api.Event{ev(3, api.EvBlock, 1, api.WJoin, 0), ev(6, api.EvTrap, 2, int(api.TZero), 0), ev(8, api.EvWrite, 3, 4, 0), ev(9, api.EvEnd, 3, 0, 0), ev(10, api.EvEnd, 1, 0, 0), ev(10, api.EvStop, 0, api.StDone, 0)}
	is(t, "trap", r, api.Result{Status: api.StDone, Steps: 10, Trace: want})
}

// W1: a run and what is meant have the same trace; a limit's trap ends it as a beginning.
func TestSameTrace(t *testing.T) {
	for seed := range 600 {
		src, j := sample.Source(seed), api.Job{Claimed: seed%3 > 0, Limits: limits(), Input: sample.Numbers(seed, seed%9), Picks: sample.Numbers(seed+7, 300)}
		a, b := Run(src, j), Mean(src, j)
		if a.Status == api.StLimit {
			if !event.Prefix(a.Trace[:len(a.Trace)-2], b.Trace) {
				t.Fatalf("seed %d: %v\n%v", seed, a, b)
			}
			continue
		}
		is(t, "a run and what is meant", a, b)
		is(t, "a script", Play(src, []byte(script.Text(j))), a)
	}
}

// W2: what the static checker accepts is never trapped by TClaim, whatever is picked.
func TestAcceptedIsNotTrapped(t *testing.T) {
	accepted := 0
	for seed := range 4000 {
		src := sample.Source(seed)
		ok, f := Accept(src)
		if f.Code != api.OK {
			t.Fatal(f)
		}
		if !ok {
			continue
		}
		accepted++
		for n := range 4 {
			r := Run(src, api.Job{Claimed: true, Limits: api.Limits{Procs: 32, Stack: 300, Store: 8192}, Input: sample.Numbers(n, 9), Picks: sample.Numbers(seed+n, 300)})
			for _, e := range r.Trace {
				if e.Kind == api.EvTrap && e.A == int(api.TClaim) {
					t.Fatalf("seed %d: %s\n%v", seed, src, r.Trace)
				}
			}
		}
	}
	if accepted < 100 {
		t.Error("too few are accepted:", accepted)
	}
}

// P35.4: no bytes, no job make a panic; the same ones make the same result.
func TestAnything(t *testing.T) {
	rand := sample.Rand(3)
	for seed := range 1500 {
		src := sample.Source(seed % 100)
		text := []byte(script.Text(api.Job{Claimed: true, Limits: limits(), Input: []int{1, 2}, Picks: sample.Numbers(seed, 50)}))
		for range 1 + rand.Below(3) {
			l := [][]byte{src, text}[rand.Below(2)]
			at := rand.Below(len(l))
			switch rand.Below(3) {
			case 0:
				l[at] = byte(rand.Below(256))
			case 1:
				copy(l[at:], l[min(at+rand.Below(9), len(l)-1):])
			case 2:
				copy(l[at:], " begin end ( ) [ ] := 1 ; , // - "[rand.Below(20):])
			}
		}
		kept := bytes.Clone(src)
		a, b := Play(src, text), Play(bytes.Clone(src), text)
		is(t, "the same", a, b)
		if a.Status == api.StFault && (a.Steps != 0 || len(a.Trace) != 0 || len(a.Blocked) != 0) {
			t.Error(a)
		}
		Mean(src, api.Job{Picks: []int{api.Least, api.Most, 0}})
		Run(src, api.Job{Limits: api.Limits{Procs: api.Most, Stack: api.Least, Store: api.Most}})
		if !bytes.Equal(src, kept) {
			t.Error("the source is changed")
		}
	}
	for _, src := range [][]byte{nil, {0}, bytes.Repeat([]byte{255}, 5000), bytes.Repeat([]byte("("), 4096), []byte("program p; begin " + strings.Repeat("(", 4000))} {
		Play(src, nil)
		Play(nil, src)
		Run(src, api.Job{})
		Mean(src, api.Job{})
		Accept(src)
		Compile(src)
	}
}
