package units

import (
	"slices"
	"testing"

	"signalbox/api"
)

// P13.1: so many times 0.
func TestZero(t *testing.T) {
	for _, n := range []int{api.Least, -1, 0, api.MaxClasses + 1, api.Most} {
		if v := Zero(n); v != nil {
			t.Errorf("Zero(%d): %v", n, v)
		}
	}
	for n := 1; n <= api.MaxClasses; n++ {
		if v := Zero(n); len(v) != n || !None(v) {
			t.Errorf("Zero(%d): %v", n, v)
		}
	}
}

// P13.1: what are units.
func TestIs(t *testing.T) {
	for _, r := range []struct {
		v  []int
		n  int
		is bool
	}{
		{nil, 0, true}, {[]int{}, 0, true}, {nil, 1, false}, {nil, -1, false}, {[]int{0}, 1, true}, {[]int{1000}, 1, true}, {[]int{1001}, 1, false}, {[]int{-1}, 1, false}, {[]int{1, 2}, 1, false},
		{[]int{1, 2}, 3, false}, {make([]int, 9), 9, true}, {[]int{1, 2, api.Least}, 3, false}, {[]int{api.Most, 2}, 2, false}, {[]int{1}, api.Least, false},
	} {
		if Is(r.v, r.n) != r.is {
			t.Errorf("Is(%v, %d) is %v", r.v, r.n, !r.is)
		}
	}
}

// P13.1: None and Sum.
func TestNoneAndSum(t *testing.T) {
	for _, r := range []struct {
		v    []int
		none bool
		sum  int
	}{
		{nil, true, 0}, {[]int{0, 0}, true, 0}, {[]int{0, 1}, false, 1}, {[]int{3, 4, 5}, false, 12}, {[]int{-1}, false, 0}, {[]int{5, -5}, false, 0}, {[]int{1000, 1000}, false, 2000},
		{[]int{1, 1001}, false, 0}, {[]int{api.Most, 1}, false, 0}, {[]int{1, 1, 1, 1, 1, 1, 1, 1}, false, 8},
	} {
		if None(r.v) != r.none || Sum(r.v) != r.sum {
			t.Errorf("%v: %v, %d", r.v, None(r.v), Sum(r.v))
		}
	}
}

// P13.1: Fits, of whatever numbers.
func TestFits(t *testing.T) {
	for _, r := range []struct {
		a, b []int
		fits bool
	}{
		{nil, nil, true}, {nil, []int{}, true}, {[]int{1}, nil, false}, {nil, []int{1}, false}, {[]int{1, 2}, []int{1, 2}, true}, {[]int{1, 3}, []int{1, 2}, false}, {[]int{2, 1}, []int{1, 2}, false},
		{[]int{-5}, []int{-4}, true}, {[]int{api.Least}, []int{api.Most}, true}, {[]int{api.Most}, []int{api.Least}, false}, {[]int{1}, []int{1, 1}, false},
	} {
		if Fits(r.a, r.b) != r.fits {
			t.Errorf("Fits(%v, %v) is %v", r.a, r.b, !r.fits)
		}
	}
}

// told holds what Plus or Less tells against what it must.
func told(t *testing.T, what string, a, b, v []int, ok bool, want []int) {
	t.Helper()
	if ok != (want != nil) || !slices.Equal(v, want) {
		t.Errorf("%s of %v and %v: %v, %v; want %v", what, a, b, v, ok, want)
	}
}

// P13.1: Plus and Less, and their bounds.
func TestPlusAndLess(t *testing.T) {
	for _, r := range []struct{ a, b, plus, less []int }{
		{nil, nil, []int{}, []int{}}, {[]int{3, 1}, []int{1, 1}, []int{4, 2}, []int{2, 0}}, {[]int{1}, []int{2}, []int{3}, nil}, {[]int{1000}, []int{0}, []int{1000}, []int{1000}},
		{[]int{1000}, []int{1}, nil, []int{999}}, {[]int{1, 2}, []int{1}, nil, nil}, {[]int{1}, []int{1, 2}, nil, nil}, {[]int{5}, []int{-1}, nil, nil}, {[]int{-1}, []int{5}, nil, nil},
		{[]int{1001}, []int{5}, nil, nil}, {[]int{5}, []int{1001}, nil, nil}, {[]int{api.Most}, []int{1}, nil, nil}, {[]int{api.Least}, []int{api.Least}, nil, nil}, {[]int{600, 600}, []int{400, 401}, nil, []int{200, 199}},
		{[]int{1, 2, 3, 4, 5, 6, 7}, []int{1, 1, 1, 1, 1, 1, 1}, []int{2, 3, 4, 5, 6, 7, 8}, []int{0, 1, 2, 3, 4, 5, 6}},
	} {
		v, ok := Plus(r.a, r.b)
		told(t, "Plus", r.a, r.b, v, ok, r.plus)
		v, ok = Less(r.a, r.b)
		told(t, "Less", r.a, r.b, v, ok, r.less)
	}
}

// P13.2: what was added can be taken away.
func TestLessOfPlus(t *testing.T) {
	edges := []int{-1, 0, 1, 499, 500, 501, 999, 1000, 1001}
	for _, x := range edges {
		for _, y := range edges {
			a, b := []int{x, 1}, []int{y, 2}
			if v, ok := Plus(a, b); ok {
				w, is := Less(v, b)
				told(t, "Less of Plus", v, b, w, is, a)
			}
		}
	}
}

// P13.1 (rule 3): what is handed in is left alone.
func TestMemory(t *testing.T) {
	room := []int{1, 2, 77}
	a, b := room[:2], []int{3, 4}
	v, _ := Plus(a, b)
	v[0] = 9
	v, _ = Less(b, a)
	v[0] = 9
	if !slices.Equal(room, []int{1, 2, 77}) || !slices.Equal(b, []int{3, 4}) {
		t.Error(room, b)
	}
}
