package dial

import (
	"math"
	"math/big"
	"testing"

	"copyhold/api"
)

const top = api.MaxClock

// wrong: parts that no clock has.
var wrong = []float64{
	-1, -0.5, 0.5, 1.25, top + 1, top - 0.5, top + 0.5, -top, 1 << 62, -(1 << 63), 1e300, -1e300,
	math.NaN(), math.Inf(1), math.Inf(-1),
	math.SmallestNonzeroFloat64, -math.SmallestNonzeroFloat64, math.MaxFloat64, -math.MaxFloat64,
	math.Nextafter(top, 2*top), math.Nextafter(top, 0), math.Nextafter(1, 0), math.Nextafter(1, 2),
}

// right: parts that a clock may have.
var right = []float64{0, 1, 2, 3, 16, 1 << 20, 1<<31 - 1, 1 << 31, 1 << 32, top - 1, top, math.Copysign(0, -1)}

// badClocks: clocks with one wrong part, or with two.
func badClocks() []complex128 {
	var list []complex128
	for _, w := range wrong {
		for _, r := range right {
			list = append(list, complex(w, r), complex(r, w))
		}
		list = append(list, complex(w, w))
	}
	return list
}

// ends: numbers at and near the ends of their type, and of a clock.
var ends = []int{
	math.MinInt, math.MinInt + 1, math.MinInt / 2, math.MinInt / 4, math.MinInt / 5, -top - 1, -top, -1, 0, 1, 2, 3, 4, 5, 6,
	top - 1, top, top + 1, math.MaxInt / 5, math.MaxInt/5 + 1, math.MaxInt / 4, math.MaxInt/4 + 1, math.MaxInt / 2, math.MaxInt - 1, math.MaxInt,
}

// inStep: the document's own words for keeping step, in numbers without an end.
func inStep(gone, shown int) bool {
	g, s := big.NewInt(int64(gone)), big.NewInt(int64(shown))
	four, five := big.NewInt(4), big.NewInt(5)
	times := func(a, b *big.Int) *big.Int { return new(big.Int).Mul(a, b) }
	return times(four, g).Cmp(times(five, s)) <= 0 && times(four, s).Cmp(times(five, g)) <= 0
}

func at(shown, gone int) complex128 { return complex(float64(shown), float64(gone)) }

func TestSoundAndParts(t *testing.T) {
	for _, a := range right {
		for _, b := range right {
			z := complex(a, b)
			if !Sound(z) {
				t.Errorf("Sound(%v) is false", z)
			}
			if shown, gone, e := Parts(z); shown != int(a) || gone != int(b) || e != api.OK {
				t.Errorf("Parts(%v): %d, %d, %d", z, shown, gone, e)
			}
		}
	}
	for _, z := range badClocks() {
		if Sound(z) {
			t.Errorf("Sound(%v) is true", z)
		}
		if shown, gone, e := Parts(z); shown != 0 || gone != 0 || e != api.ErrForm {
			t.Errorf("Parts(%v): %d, %d, %d", z, shown, gone, e)
		}
	}
}

func TestStepWithinSmallNumbers(t *testing.T) {
	for gone := -2; gone <= 60; gone++ {
		for shown := -2; shown <= 80; shown++ {
			z, e := Step(7+9i, gone, shown)
			switch {
			case gone < 0 || shown < 0:
				if z != 0 || e != api.ErrArg {
					t.Errorf("Step(%d, %d): %v, %d", gone, shown, z, e)
				}
			case !inStep(gone, shown):
				if z != 0 || e != api.ErrRange {
					t.Errorf("Step(%d, %d): %v, %d", gone, shown, z, e)
				}
			default:
				if z != at(7+shown, 9+gone) || e != api.OK {
					t.Errorf("Step(%d, %d): %v, %d", gone, shown, z, e)
				}
			}
		}
	}
}

func TestStepAtTheBoundsOfKeepingStep(t *testing.T) {
	for i, c := range []struct {
		gone, shown int
		e           api.Errno
	}{
		{0, 0, api.OK}, {0, 1, api.ErrRange}, {1, 0, api.ErrRange}, {1, 1, api.OK}, {1, 2, api.ErrRange}, {2, 1, api.ErrRange},
		{4, 5, api.OK}, {4, 6, api.ErrRange}, {5, 4, api.OK}, {5, 3, api.ErrRange},
		{4 << 30, 5 << 30, api.OK}, {4 << 30, 5<<30 + 1, api.ErrRange}, {5 << 30, 4 << 30, api.OK}, {5 << 30, 4<<30 - 1, api.ErrRange},
		{top, top, api.OK}, {top, top / 5 * 4, api.ErrRange}, {top, (top*4 + 4) / 5, api.OK}, {top / 5 * 4, top, api.ErrRange}, {(top*4 + 4) / 5, top, api.OK},
		{top, top + 1, api.ErrRange}, {top + 1, top, api.ErrRange}, {top, 0, api.ErrRange}, {0, top, api.ErrRange},
	} {
		want := at(c.shown, c.gone)
		if c.e != api.OK {
			want = 0
		}
		if z, e := Step(0, c.gone, c.shown); z != want || e != c.e {
			t.Errorf("%d: Step(0, %d, %d): %v, %d", i, c.gone, c.shown, z, e)
		}
	}
}

func TestStepAtMaxClock(t *testing.T) {
	for i, c := range []struct {
		z           complex128
		gone, shown int
		e           api.Errno
	}{
		{at(top, top), 0, 0, api.OK}, {at(top, top), 1, 1, api.ErrRange},
		{at(top, 0), 0, 0, api.OK}, {at(top, 0), 1, 1, api.ErrRange}, {at(0, top), 1, 1, api.ErrRange},
		{at(top-1, 0), 1, 1, api.OK}, {at(0, top-1), 1, 1, api.OK}, {at(top-1, top-1), 1, 1, api.OK},
		{at(top-5, top-4), 4, 5, api.OK}, {at(top-4, top-4), 4, 5, api.ErrRange}, {at(top-5, top-3), 4, 5, api.ErrRange},
		{at(top-4, top-5), 5, 4, api.OK}, {at(top-4, top-4), 5, 4, api.ErrRange}, {at(top-3, top-5), 5, 4, api.ErrRange},
		{at(1, 0), top, top, api.ErrRange}, {at(0, 1), top, top, api.ErrRange},
	} {
		want := c.z + at(c.shown, c.gone)
		if c.e != api.OK {
			want = 0
		}
		if z, e := Step(c.z, c.gone, c.shown); z != want || e != c.e {
			t.Errorf("%d: Step(%v, %d, %d): %v, %d", i, c.z, c.gone, c.shown, z, e)
		}
	}
}

func TestStepAtTheEndsOfNumbers(t *testing.T) {
	for _, z := range []complex128{0, 3 + 2i, at(top, 0), at(0, top), at(top, top)} {
		for _, gone := range ends {
			for _, shown := range ends {
				e, want := api.OK, z+at(shown, gone)
				switch {
				case gone < 0 || shown < 0:
					e, want = api.ErrArg, 0
				case !inStep(gone, shown) || shown > top-int(real(z)) || gone > top-int(imag(z)):
					e, want = api.ErrRange, 0
				}
				if got, errno := Step(z, gone, shown); got != want || errno != e {
					t.Errorf("Step(%v, %d, %d): %v, %d, not %v, %d", z, gone, shown, got, errno, want, e)
				}
			}
		}
	}
}

func TestStepTellsTheFirstError(t *testing.T) {
	for _, z := range badClocks() {
		for _, n := range []int{math.MinInt, -1, 0, 1, math.MaxInt} {
			if got, e := Step(z, n, 1); got != 0 || e != api.ErrForm {
				t.Errorf("Step(%v, %d, 1): %v, %d", z, n, got, e)
			}
			if got, e := Step(z, 1, n); got != 0 || e != api.ErrForm {
				t.Errorf("Step(%v, 1, %d): %v, %d", z, n, got, e)
			}
		}
	}
	for _, c := range [][2]int{{-1, top + 1}, {math.MaxInt, -1}, {-1, 9}, {9, -1}, {math.MinInt, math.MaxInt}} {
		if got, e := Step(0, c[0], c[1]); got != 0 || e != api.ErrArg {
			t.Errorf("Step(0, %d, %d): %v, %d", c[0], c[1], got, e)
		}
	}
}

func TestNearWithinSmallNumbers(t *testing.T) {
	for gone := range 70 {
		for wish := -10; wish <= 110; wish++ {
			best, found := 0, false
			for n := range 120 {
				if inStep(gone, n) && (!found || max(n-wish, wish-n) < max(best-wish, wish-best)) {
					best, found = n, true
				}
			}
			if n, e := Near(gone, wish); n != best || e != api.OK {
				t.Errorf("Near(%d, %d): %d, %d, not %d", gone, wish, n, e, best)
			}
		}
	}
}

func TestNearAtTheEnds(t *testing.T) {
	for _, gone := range []int{0, 1, 2, 3, 4, 5, 6, 7, 8, 9, top - 5, top - 4, top - 3, top - 2, top - 1, top} {
		low, _ := Near(gone, math.MinInt)
		high, _ := Near(gone, math.MaxInt)
		if !inStep(gone, low) || inStep(gone, low-1) || !inStep(gone, high) || inStep(gone, high+1) {
			t.Errorf("Near(%d): from %d to %d", gone, low, high)
		}
		for _, wish := range ends {
			if n, e := Near(gone, wish); n != min(max(low, wish), high) || e != api.OK {
				t.Errorf("Near(%d, %d): %d, %d", gone, wish, n, e)
			}
		}
	}
	if n, e := Near(top, math.MaxInt); n != 5<<38 || e != api.OK {
		t.Errorf("Near(MaxClock, MaxInt): %d, %d", n, e)
	}
	for _, gone := range ends {
		if gone >= 0 && gone <= top {
			continue
		}
		for _, wish := range ends {
			if n, e := Near(gone, wish); n != 0 || e != api.ErrArg {
				t.Errorf("Near(%d, %d): %d, %d", gone, wish, n, e)
			}
		}
	}
}

func TestTrue(t *testing.T) {
	for _, a := range []complex128{0, 20 + 20i, at(top-40, top-40), at(0, top-40), at(top-40, 0)} {
		for shown := -20; shown <= 40; shown++ {
			for gone := -20; gone <= 40; gone++ {
				b := a + at(shown, gone)
				want := real(b) >= 0 && imag(b) >= 0 && shown >= 0 && gone >= 0 && inStep(gone, shown)
				if True(a, b) != want {
					t.Errorf("True(%v, %v) is %v", a, b, !want)
				}
			}
		}
	}
}

func TestTrueAtTheEnds(t *testing.T) {
	for i, c := range []struct {
		a, b complex128
		want bool
	}{
		{0, 0, true}, {at(top, top), at(top, top), true}, {at(top, 0), at(top, 0), true},
		{0, at(top, top), true}, {at(top, top), 0, false}, {at(top-1, top-1), at(top, top), true}, {at(top, top), at(top-1, top-1), false},
		{0, at(top, (top*4+4)/5), true}, {0, at(top, top/5*4), false}, {0, at((top*4+4)/5, top), true}, {0, at(top/5*4, top), false},
		{0, at(5<<30, 4<<30), true}, {0, at(5<<30+1, 4<<30), false}, {0, at(4<<30, 5<<30), true}, {0, at(4<<30-1, 5<<30), false},
		{1 + 1i, 6 + 5i, true}, {1 + 1i, 7 + 5i, false}, {1 + 1i, 5 + 6i, true}, {1 + 1i, 4 + 6i, false},
		{5 + 5i, 4 + 6i, false}, {5 + 5i, 6 + 4i, false}, {5 + 5i, 4 + 4i, false}, {0, 1, false}, {0, 1i, false},
	} {
		if True(c.a, c.b) != c.want {
			t.Errorf("%d: True(%v, %v) is %v", i, c.a, c.b, !c.want)
		}
	}
	for _, z := range badClocks() {
		if True(z, z) || True(z, 5+5i) || True(0, z) || True(z, at(top, top)) {
			t.Errorf("True with %v", z)
		}
	}
	if True(0.5+0.5i, 1.5+1.5i) || True(-1-1i, 0) || True(at(top, top), at(top+1, top+1)) {
		t.Error("True of clocks that are not sound, a sound difference apart")
	}
}

func TestLasts(t *testing.T) {
	for since := range 30 {
		for now := range 60 {
			for term := -3; term <= 40; term++ {
				want := now >= since && now-since < term
				// What has gone by in truth plays no part.
				for _, gone := range [][2]int{{0, 0}, {9, 3}, {0, top}} {
					if Lasts(at(since, gone[0]), at(now, gone[1]), term) != want {
						t.Errorf("Lasts(%d, %d, %d) is %v", since, now, term, !want)
					}
				}
			}
		}
	}
}

func TestLastsAtTheEnds(t *testing.T) {
	for i, c := range []struct {
		since, now complex128
		term       int
		want       bool
	}{
		{0, 0, 1, true}, {0, 0, 0, false}, {0, 1, 1, false}, {3, 3, 1, true}, {3, 4, 1, false},
		{0, top, top, false}, {0, top - 1, top, true}, {0, top, top + 1, true}, {1, top, top, true},
		{top, top, 1, true}, {top, top - 1, top, false}, {top, 0, math.MaxInt, false}, {0, top, math.MaxInt, true},
		{0, 0, -1, false}, {0, 0, math.MinInt, false}, {top, 0, math.MinInt, false}, {0, top, math.MinInt, false}, {1, 0, 0, false}, {5, 4, -1, false},
		{3, 3 + api.TermC - 1, api.TermC, true}, {3, 3 + api.TermC, api.TermC, false},
	} {
		if Lasts(c.since, c.now, c.term) != c.want {
			t.Errorf("%d: Lasts(%v, %v, %d) is %v", i, c.since, c.now, c.term, !c.want)
		}
	}
	for _, z := range badClocks() {
		for _, term := range []int{math.MinInt, 0, 1, 16, top, math.MaxInt} {
			if Lasts(z, at(top, top), term) || Lasts(0, z, term) || Lasts(z, z, term) {
				t.Errorf("Lasts with %v, %d", z, term)
			}
		}
	}
}

// slowLonger: by the document's words, over all moments that may go by.
func slowLonger(term int) int {
	t := 1
	for gone := range 2*term + 2 {
		for one := range term {
			if !inStep(gone, one) {
				continue
			}
			for other := t; other < 4*term+4; other++ {
				if inStep(gone, other) {
					t = other + 1
				}
			}
		}
	}
	return t
}

func TestLonger(t *testing.T) {
	for term := 1; term <= 40; term++ {
		if n, e := Longer(term); n != slowLonger(term) || e != api.OK {
			t.Errorf("Longer(%d): %d, %d, not %d", term, n, e, slowLonger(term))
		}
	}
	if n, e := Longer(api.TermC); n != 23 || n >= api.TermS || e != api.OK {
		t.Errorf("Longer(TermC): %d, %d", n, e)
	}
}

func TestLongerAtTheEnds(t *testing.T) {
	for _, c := range [][2]int{{1, 1}, {2, 2}, {3, 3}, {4, 4}, {5, 7}, {16, 23}, {100, 154}} {
		if n, e := Longer(c[0]); n != c[1] || e != api.OK {
			t.Errorf("Longer(%d): %d, %d", c[0], n, e)
		}
	}
	// Above MaxClock, by numbers without an end: the most moments, then the most that a clock shows in them.
	for _, term := range []int{top - 4, top - 3, top - 2, top - 1, top} {
		n, e := Longer(term)
		if e != api.OK {
			t.Fatalf("Longer(%d): %d", term, e)
		}
		moments := term - 1 + (term-1)/4
		if !inStep(moments, term-1) || inStep(moments+1, term-1) || !inStep(moments, n-1) || inStep(moments, n) {
			t.Errorf("Longer(%d): %d", term, n)
		}
	}
	for _, term := range ends {
		if n, e := Longer(term); (term < 1 || term > top) && (n != 0 || e != api.ErrArg) {
			t.Errorf("Longer(%d): %d, %d", term, n, e)
		}
	}
}
