package event

import (
	"slices"
	"strconv"
	"testing"

	"signalbox/api"
)

// P17.1: names of kinds.
func TestName(t *testing.T) {
	for kind, want := range []string{"", "write", "block", "grant", "trap", "end", "stop", ""} {
		if Name(kind) != want {
			t.Errorf("Name(%d): %q", kind, Name(kind))
		}
	}
	for _, kind := range []int{api.Least, -1, 8, 64, api.Most} {
		if Name(kind) != "" || Text(api.Event{Kind: kind, Pid: 1}) != "" {
			t.Errorf("%d has a name", kind)
		}
	}
	if Text(api.Event{}) != "" {
		t.Error("no event has a text")
	}
}

// P17.1, P17.2: texts, and that they are read again.
func TestTexts(t *testing.T) {
	for _, r := range []struct {
		e    api.Event
		text string
	}{
		{api.Event{At: 3, Kind: api.EvWrite, Pid: 2, A: 17}, "3 write 2 17 0"},
		{api.Event{Kind: api.EvBlock, Pid: 1, A: 4, B: 5}, "0 block 1 4 5"},
		{api.Event{At: -1, Kind: api.EvGrant, Pid: -2, A: -3, B: -4}, "-1 grant -2 -3 -4"},
		{api.Event{At: api.Most, Kind: api.EvTrap, Pid: api.Least, A: api.Most, B: api.Least}, "9223372036854775807 trap -9223372036854775808 9223372036854775807 -9223372036854775808"},
		{api.Event{At: 10, Kind: api.EvEnd, Pid: 32}, "10 end 32 0 0"},
		{api.Event{At: 10, Kind: api.EvStop, A: api.StDone}, "10 stop 0 1 0"},
	} {
		if Text(r.e) != r.text {
			t.Errorf("Text of %v: %q", r.e, Text(r.e))
		}
		if e, ok := Read(r.text); e != r.e || !ok {
			t.Errorf("Read(%q): %v, %v", r.text, e, ok)
		}
	}
}

// P17.1: texts that are none.
func TestReadRefuses(t *testing.T) {
	for _, s := range []string{
		"", " ", "    ", "write", "3 write 2 17", "3 write 2 17 0 ", "3 write 2 17 0 0", " 3 write 2 17 0", "3  write 2 17 0", "3 Write 2 17 0", "3 1 2 17 0", "3  2 17 0", "+3 write 2 17 0", "03 write 2 17 0",
		"3 write 2 17 -0", "3 write 2 17 00", "3 write 2 17 a", "x write 2 17 0", "3 write x 17 0", "3 write 2 x 0", "3 write 2 17 9223372036854775808", "-9223372036854775809 write 2 17 0", "3\twrite 2 17 0", "3 write 2 17 0\n",
		"3 writes 2 17 0", "3 write 2 1_7 0", "3 write 2 0x1 0", "3 write 2 ٣ 0", "3 write 2 17 0 \xff", "\xff write 2 17 0", "1 2 3 4 5 6 7 8",
	} {
		if e, ok := Read(s); ok || e != (api.Event{}) {
			t.Errorf("Read(%q): %v, %v", s, e, ok)
		}
	}
}

// P17.3: what Text wrote is read again.
func TestReadAgain(t *testing.T) {
	edges := []int{api.Least, -10, -1, 0, 1, 9, 10, 99, 100, api.Most}
	for kind := api.EvWrite; kind <= api.EvStop; kind++ {
		for i, x := range edges {
			e := api.Event{At: x, Kind: kind, Pid: edges[(i+3)%10], A: edges[(i+5)%10], B: edges[(i+7)%10]}
			if got, ok := Read(Text(e)); got != e || !ok {
				t.Errorf("%v is read as %v", e, got)
			}
		}
	}
}

// row is a row of n events, the one of number turned turned.
func row(n, turned int) []api.Event {
	var l []api.Event
	for i := range n {
		e := api.Event{At: i, Kind: api.EvWrite, Pid: 1, A: 10 * i}
		if i == turned {
			e.B++
		}
		l = append(l, e)
	}
	return l
}

// P17.2: Same and Prefix.
func TestSameAndPrefix(t *testing.T) {
	for i, r := range []struct {
		a, b         []api.Event
		same, prefix bool
	}{
		{nil, nil, true, true}, {nil, []api.Event{}, true, true}, {nil, row(1, -1), false, true}, {row(1, -1), nil, false, false}, {row(3, -1), row(3, -1), true, true}, {row(3, 2), row(3, -1), false, false},
		{row(3, 0), row(3, -1), false, false}, {row(2, -1), row(3, -1), false, true}, {row(2, -1), row(3, 2), false, true}, {row(2, 1), row(3, -1), false, false}, {row(3, -1), row(2, -1), false, false},
	} {
		if Same(r.a, r.b) != r.same || Same(r.b, r.a) != r.same || Prefix(r.a, r.b) != r.prefix {
			t.Errorf("%d: %v, %v", i, Same(r.a, r.b), Prefix(r.a, r.b))
		}
	}
	for i, turn := range []func(e *api.Event){func(e *api.Event) { e.At++ }, func(e *api.Event) { e.Kind++ }, func(e *api.Event) { e.Pid++ }, func(e *api.Event) { e.A++ }, func(e *api.Event) { e.B++ }} {
		l := row(2, -1)
		turn(&l[1])
		if Same(l, row(2, -1)) {
			t.Errorf("turn %d is not seen", i)
		}
	}
}

// P17.2: what was written.
func TestOutputs(t *testing.T) {
	var l []api.Event
	for kind := -1; kind < 9; kind++ {
		l = append(l, api.Event{Kind: kind, A: 100 + kind}, api.Event{Kind: api.EvWrite, A: -kind})
	}
	var want []int
	for _, e := range l {
		if e.Kind == 1 {
			want = append(want, e.A)
		}
	}
	if got := Outputs(l); !slices.Equal(got, want) || len(got) != 11 {
		t.Error(got)
	}
	if Outputs(nil) != nil || len(Outputs(row(3, 1))) != 3 {
		t.Error("Outputs", strconv.Itoa(len(Outputs(row(3, 1)))))
	}
}
