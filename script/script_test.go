package script

import (
	"slices"
	"strings"
	"testing"

	"signalbox/api"
)

func same(a, b api.Job) bool {
	return a.Claimed == b.Claimed && a.Limits == b.Limits && slices.Equal(a.Input, b.Input) && slices.Equal(a.Picks, b.Picks)
}

// P33.1, P33.2, P33.3: texts, and that they are read again.
func TestTexts(t *testing.T) {
	for _, r := range []struct {
		j    api.Job
		text string
	}{
		{api.Job{Claimed: true, Limits: api.Limits{Procs: 4, Stack: 64, Store: 900}, Input: []int{7}}, "claimed\nlimits 4 64 900\ninput 7\npicks\n"},
		{api.Job{}, "unclaimed\nlimits 0 0 0\ninput\npicks\n"},
		{api.Job{Limits: api.Limits{Procs: -1, Stack: api.Least, Store: api.Most}, Input: []int{0, -7, 10}, Picks: []int{api.Most, api.Least, 3}}, "unclaimed\nlimits -1 -9223372036854775808 9223372036854775807\ninput 0 -7 10\npicks 9223372036854775807 -9223372036854775808 3\n"},
	} {
		if Text(r.j) != r.text {
			t.Errorf("Text of %v: %q", r.j, Text(r.j))
		}
		if j, n, c := Read(r.text); !same(j, r.j) || n != 0 || c != api.OK {
			t.Errorf("Read(%q): %v, %d, %d", r.text, j, n, c)
		}
	}
}

// P33.2: the first line that is not as it must be.
func TestReadRefuses(t *testing.T) {
	a, b, c, d := "claimed\n", "limits 1 2 3\n", "input 4\n", "picks 5 6\n"
	for _, r := range []struct {
		text string
		line int
	}{
		{"", 1}, {"claimed", 1}, {"\n", 1}, {"Claimed\n" + b + c + d, 1}, {"claimed \n" + b + c + d, 1}, {" claimed\n" + b + c + d, 1}, {"claimed\r\n" + b + c + d, 1}, {"unclaime\n", 1}, {"xx\nyy\n", 1}, {b + c + d, 1}, {"claimed 1\n" + b + c + d, 1},
		{a, 2}, {a + "limits 1 2 3", 2}, {a + "\n", 2}, {a + "limits\n" + c + d, 2}, {a + "limits 1 2\n" + c + d, 2}, {a + "limits 1 2 3 4\n" + c + d, 2}, {a + "limits 1 2 3 \n" + c + d, 2}, {a + "limits  1 2 3\n" + c + d, 2}, {a + "limits 1 2 x\n" + c + d, 2},
		{a + "limits 01 2 3\n" + c + d, 2}, {a + "limits +1 2 3\n" + c + d, 2}, {a + "limits -0 2 3\n" + c + d, 2}, {a + "limits 1 2 9223372036854775808\n" + c + d, 2}, {a + "limits1 2 3\n" + c + d, 2}, {a + c + b + d, 2}, {a + "limits 1\t2 3\n" + c + d, 2}, {a + " limits 1 2 3\n" + c + d, 2},
		{a + b, 3}, {a + b + "input", 3}, {a + b + "inp", 3}, {a + b + "input \n" + d, 3}, {a + b + "inputs\n" + d, 3}, {a + b + "input 1 x\n" + d, 3}, {a + b + "input 1_0\n" + d, 3}, {a + b + "input 0x1\n" + d, 3}, {a + b + d, 3}, {a + b + "input -9223372036854775809\n" + d, 3}, {a + b + "input 1  2\n" + d, 3}, {a + b + "input --1\n" + d, 3}, {a + b + "input -\n" + d, 3},
		{a + b + c, 4}, {a + b + c + "picks 5 6", 4}, {a + b + c + "picks", 4}, {a + b + c + "picks 5 6 \n", 4}, {a + b + c + "pick 5\n", 4}, {a + b + c + "picks ٣\n", 4}, {a + b + c + "\n" + d, 4},
		{a + b + c + d + "\n", 5}, {a + b + c + d + "x", 5}, {a + b + c + d + " ", 5}, {a + b + c + d + "\n\n\n", 5}, {a + b + c + d + a, 5}, {a + b + c + d + "x\ny\n", 5},
		{"x\n" + b + c + d + "\n", 1}, {a + b + c + "picks 5 x\n\n", 4},
	} {
		if j, n, e := Read(r.text); !same(j, api.Job{}) || n != r.line || e != api.ErrLine {
			t.Errorf("Read(%q): %v, %d, %d; want %d", r.text, j, n, e, r.line)
		}
	}
	if _, n, e := Read(a + b + c + d); n != 0 || e != api.OK {
		t.Error(n, e)
	}
}

// P33.3: long lists are read again, and no other text is.
func TestReadAgain(t *testing.T) {
	j := api.Job{Claimed: true, Limits: api.Limits{Procs: 3, Stack: 2, Store: 1}}
	for i := range 3000 {
		j.Input, j.Picks = append(j.Input, i*i-5000), append(j.Picks, -i)
	}
	text := Text(j)
	if got, n, c := Read(text); !same(got, j) || n != 0 || c != api.OK {
		t.Error(n, c)
	}
	if strings.Count(text, "\n") != 4 {
		t.Error("lines:", strings.Count(text, "\n"))
	}
	short := Text(api.Job{Claimed: true, Limits: api.Limits{Procs: 4, Stack: 64, Store: 900}, Input: []int{7}, Picks: []int{0, 12}})
	for i := range short {
		for _, x := range []string{"", " ", "0", "-", "\n", "c"} {
			other := short[:i] + x + short[i+1:]
			if got, _, c := Read(other); c == api.OK && Text(got) != other {
				t.Errorf("%q is read as %q", other, Text(got))
			}
		}
	}
}
