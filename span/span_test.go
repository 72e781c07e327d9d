package span

import "testing"

const (
	least = -1 << 63
	most  = 1<<63 - 1
)

// edges are numbers at which something may turn.
func edges() []int {
	return []int{least, least + 1, -Inf - 2, -Inf - 1, -Inf, -Inf + 1, -3, -2, -1, 0, 1, 2, 3, Inf - 1, Inf, Inf + 1, Inf + 2, most - 1, most}
}

// clip is Clip, written otherwise.
func clip(x int) int {
	switch {
	case x < -Inf:
		return -Inf
	case x > Inf:
		return Inf
	}
	return x
}

// P28.1: Clip and Of.
func TestClipAndOf(t *testing.T) {
	if Inf != 1048576 {
		t.Error("Inf is", Inf)
	}
	for _, x := range edges() {
		if Clip(x) != clip(x) {
			t.Errorf("Clip(%d): %d", x, Clip(x))
		}
		for _, y := range edges() {
			want := Span{clip(x), clip(y)}
			if x > y {
				want = Span{}
			}
			if Of(x, y) != want {
				t.Errorf("Of(%d, %d): %v; want %v", x, y, Of(x, y), want)
			}
		}
	}
	// As they are handed in: both are beyond Inf.
	if Of(Inf+2, Inf+1) != (Span{}) || Of(Inf+1, Inf+2) != (Span{Inf, Inf}) {
		t.Error("Of beyond Inf")
	}
}

// P28.1: Plus, Hull, Loop, bound by bound.
func TestPlusHullLoop(t *testing.T) {
	for _, lo := range edges() {
		for _, hi := range edges() {
			a := Span{lo, hi}
			want := Span{}
			if lo < 0 {
				want.Lo = -Inf
			}
			if hi > 0 {
				want.Hi = Inf
			}
			if Loop(a) != want {
				t.Errorf("Loop(%v): %v", a, Loop(a))
			}
			for _, x := range edges() {
				b := Span{x, -(x / 3)}
				want := Span{clip(clip(a.Lo) + clip(b.Lo)), clip(clip(a.Hi) + clip(b.Hi))}
				if clip(a.Lo) == -Inf || clip(b.Lo) == -Inf {
					want.Lo = -Inf
				}
				if clip(a.Hi) == Inf || clip(b.Hi) == Inf {
					want.Hi = Inf
				}
				if Plus(a, b) != want || Plus(b, a) != want {
					t.Errorf("Plus(%v, %v): %v; want %v", a, b, Plus(a, b), want)
				}
				want = Span{min(clip(a.Lo), clip(b.Lo)), max(clip(a.Hi), clip(b.Hi))}
				if Hull(a, b) != want || Hull(b, a) != want {
					t.Errorf("Hull(%v, %v): %v; want %v", a, b, Hull(a, b), want)
				}
			}
		}
	}
}

// P28.1: some by hand.
func TestByHand(t *testing.T) {
	for i, r := range []struct{ got, want Span }{
		{Loop(Span{0, 2}), Span{0, Inf}}, {Loop(Span{-1, 0}), Span{-Inf, 0}}, {Loop(Span{0, 0}), Span{}}, {Loop(Span{1, 3}), Span{0, Inf}}, {Loop(Span{-3, -1}), Span{-Inf, 0}},
		{Plus(Span{1, 2}, Span{-3, 5}), Span{-2, 7}}, {Plus(Span{-Inf, 2}, Span{5, 5}), Span{-Inf, 7}}, {Plus(Span{1, Inf}, Span{-5, -5}), Span{-4, Inf}}, {Plus(Span{Inf, Inf}, Span{-5, -5}), Span{Inf - 5, Inf}},
		{Plus(Span{-Inf, -Inf}, Span{5, 5}), Span{-Inf, 5 - Inf}}, {Hull(Span{1, 2}, Span{5, 6}), Span{1, 6}}, {Hull(Span{least, 0}, Span{0, most}), Span{-Inf, Inf}}, {Of(3, 2), Span{}}, {Of(-4, 4), Span{-4, 4}},
	} {
		if r.got != r.want {
			t.Errorf("%d: %v; want %v", i, r.got, r.want)
		}
	}
}

// P28.1: what an interval has.
func TestHas(t *testing.T) {
	for _, r := range []struct {
		a  Span
		x  int
		is bool
	}{
		{Span{1, 3}, 0, false}, {Span{1, 3}, 1, true}, {Span{1, 3}, 3, true}, {Span{1, 3}, 4, false}, {Span{-Inf, 3}, least, true}, {Span{-Inf, 3}, 4, false}, {Span{1, Inf}, most, true}, {Span{1, Inf}, 0, false},
		{Span{-Inf, Inf}, most, true}, {Span{-Inf + 1, 0}, -Inf, false}, {Span{0, Inf - 1}, Inf, false}, {Span{least, 0}, least, true}, {Span{3, 1}, 2, false}, {Span{0, most}, most, true}, {Span{Inf, Inf}, Inf, true}, {Span{Inf, Inf}, Inf - 1, false},
	} {
		if Has(r.a, r.x) != r.is {
			t.Errorf("%v has %d: %v", r.a, r.x, !r.is)
		}
	}
}

// P28.2: sums and unions of what intervals have.
func TestSound(t *testing.T) {
	var spans []Span
	for lo := -2; lo <= 2; lo++ {
		for hi := lo; hi <= 2; hi++ {
			spans = append(spans, Span{lo, hi})
		}
	}
	spans = append(spans, Span{-Inf, 0}, Span{0, Inf}, Span{-Inf, Inf}, Span{Inf - 1, Inf}, Span{-Inf, 1 - Inf})
	numbers := []int{-2 * Inf, -Inf, 1 - Inf, -2, -1, 0, 1, 2, Inf - 1, Inf, 2 * Inf}
	for _, a := range spans {
		for _, b := range spans {
			for _, x := range numbers {
				if (Has(a, x) || Has(b, x)) && !Has(Hull(a, b), x) {
					t.Errorf("Hull of %v, %v has not %d", a, b, x)
				}
				for _, y := range numbers {
					if Has(a, x) && Has(b, y) && !Has(Plus(a, b), x+y) {
						t.Errorf("Plus of %v, %v has not %d", a, b, x+y)
					}
					if Has(a, x) && Has(a, y) && !(Has(Loop(a), 0) && Has(Loop(a), x) && Has(Loop(a), x+y) && Has(Loop(a), x+y+x)) {
						t.Errorf("Loop of %v has not %d and %d", a, x, y)
					}
				}
			}
		}
	}
}
