package reach

import (
	"math"
	"slices"
	"testing"

	"copyhold/api"
)

// highest: the document's own bound, not the program's.
const highest = 1 << 40

var negativeZero = math.Copysign(0, -1)

// wrongParts: numbers that no stretch has as a part.
var wrongParts = []float64{
	-1, -0.5, 0.5, 1.25, highest + 1, highest - 0.5, highest + 0.5, -highest, 1 << 62, -(1 << 63), 1e300, -1e300,
	math.NaN(), math.Inf(1), math.Inf(-1),
	math.SmallestNonzeroFloat64, -math.SmallestNonzeroFloat64, math.MaxFloat64, -math.MaxFloat64,
	math.Nextafter(highest, 2*highest), math.Nextafter(highest, 0), math.Nextafter(1, 0), math.Nextafter(1, 2),
}

// rightParts: numbers that a stretch may have as a part, in order.
var rightParts = []float64{0, 1, 2, 3, 16, 1 << 20, 1<<31 - 1, 1 << 31, 1 << 32, highest - 1, highest}

// wrongStretches: those with wrong parts, and those whose parts are right, but not in order.
func wrongStretches() []complex128 {
	var list []complex128
	for _, w := range wrongParts {
		for _, r := range rightParts {
			list = append(list, complex(w, r), complex(r, w))
		}
		for _, v := range wrongParts {
			list = append(list, complex(w, v))
		}
	}
	for i, a := range rightParts {
		for _, b := range rightParts[:i+1] {
			list = append(list, complex(a, b))
		}
	}
	return append(list, complex(negativeZero, 0), complex(0, negativeZero), complex(negativeZero, negativeZero))
}

// wrongSets: lists of which each stretch is sound, and the whole is not.
var wrongSets = [][]complex128{
	{1 + 2i, 2 + 3i}, {5 + 6i, 1 + 2i}, {1 + 4i, 3 + 6i}, {1 + 9i, 3 + 4i}, {3 + 4i, 1 + 9i}, {1 + 2i, 1 + 2i}, {1 + 2i, 1 + 3i},
	{0 + 1i, 2 + 3i, 3 + 4i}, {0 + 1i, 1 + 3i, 4 + 5i}, {0 + 1i, 4 + 5i, 2 + 3i},
	{complex(0, highest-1), complex(highest-1, highest)}, {complex(highest-1, highest), 0 + 1i}, {complex(0, highest), complex(0, highest)},
}

// ends: numbers at and near the ends of their type, and of a stretch.
var ends = []int{
	math.MinInt, math.MinInt + 1, -highest - 1, -highest, -1, 0, 1, 2, 3, 1 << 31, 1 << 32, highest - 1, highest, highest + 1,
	1 << 53, 1<<53 + 1, 1<<53 + 2, math.MaxInt - 1, math.MaxInt,
}

// bits: which numbers below 64 are in some stretches.
func bits(list []complex128) uint64 {
	var in uint64
	for _, z := range list {
		for n := int(real(z)); n < int(imag(z)); n++ {
			in |= 1 << n
		}
	}
	return in
}

// setOf: the one sound set of some numbers below 64, number by number, without the program's help.
func setOf(in uint64) []complex128 {
	var list []complex128
	for n := 0; n < 64; n++ {
		if in>>n&1 == 0 {
			continue
		}
		from := n
		for n < 64 && in>>n&1 == 1 {
			n++
		}
		list = append(list, complex(float64(from), float64(n)))
	}
	return list
}

// same: equal in all signs, too: -0 is not 0 here.
func same(a, b []complex128) bool {
	return slices.EqualFunc(a, b, func(x, y complex128) bool {
		return math.Float64bits(real(x)) == math.Float64bits(real(y)) && math.Float64bits(imag(x)) == math.Float64bits(imag(y))
	})
}

func TestMake(t *testing.T) {
	for _, from := range ends {
		for _, to := range ends {
			want, errno := complex(float64(from), float64(to)), api.OK
			if from < 0 || to > highest || from >= to {
				want, errno = 0, api.ErrArg
			}
			if z, e := Make(from, to); z != want || e != errno {
				t.Errorf("Make(%d, %d): %v, %d", from, to, z, e)
			}
		}
	}
}

func TestEnds(t *testing.T) {
	for i, a := range rightParts {
		for _, b := range rightParts[i+1:] {
			if from, to, e := Ends(complex(a, b)); from != int(a) || to != int(b) || e != api.OK {
				t.Errorf("Ends(%v, %v): %d, %d, %d", a, b, from, to, e)
			}
		}
	}
	if from, to, e := Ends(complex(negativeZero, 3)); from != 0 || to != 3 || e != api.OK {
		t.Errorf("Ends from -0: %d, %d, %d", from, to, e)
	}
	for _, z := range wrongStretches() {
		if from, to, e := Ends(z); from != 0 || to != 0 || e != api.ErrForm {
			t.Errorf("Ends(%v): %d, %d, %d", z, from, to, e)
		}
	}
}

func TestSoundSets(t *testing.T) {
	for _, list := range [][]complex128{
		nil, {}, {0 + 1i}, {1 + 2i}, {1 + 2i, 3 + 4i}, {0 + 5i, 6 + 7i, 9 + 20i},
		{complex(0, highest)}, {complex(highest-1, highest)}, {0 + 1i, complex(2, highest)}, {complex(0, highest-2), complex(highest-1, highest)},
		{complex(negativeZero, 1)},
	} {
		if !Sound(list) {
			t.Errorf("Sound(%v) is false", list)
		}
	}
	for _, list := range wrongSets {
		if Sound(list) {
			t.Errorf("Sound(%v) is true", list)
		}
	}
	for _, z := range wrongStretches() {
		for _, list := range [][]complex128{{z}, {z, 30 + 40i}, {1 + 2i, z}, {1 + 2i, z, complex(highest-1, highest)}} {
			if Sound(list) {
				t.Errorf("Sound(%v) is true", list)
			}
		}
	}
}

// TestSoundIsOneFormOfASet: of all lists of up to three stretches, just those are sound that look as the set does.
func TestSoundIsOneFormOfASet(t *testing.T) {
	for _, list := range smallLists() {
		if want := slices.Equal(list, setOf(bits(list))); Sound(list) != want {
			t.Errorf("Sound(%v) is %v", list, !want)
		}
	}
}

// smallLists: all lists of up to three stretches of numbers below 6, in all orders.
func smallLists() [][]complex128 {
	var all []complex128
	for from := 0; from < 6; from++ {
		for to := from + 1; to <= 6; to++ {
			all = append(all, complex(float64(from), float64(to)))
		}
	}
	lists := [][]complex128{nil}
	for _, x := range all {
		lists = append(lists, []complex128{x})
		for _, y := range all {
			lists = append(lists, []complex128{x, y})
			for _, z := range all {
				lists = append(lists, []complex128{x, y, z})
			}
		}
	}
	return lists
}

func TestJoinWithinSmallNumbers(t *testing.T) {
	for _, list := range smallLists() {
		if set, e := Join(list...); !same(set, setOf(bits(list))) || e != api.OK {
			t.Errorf("Join(%v): %v, %d", list, set, e)
		}
	}
}

func TestJoin(t *testing.T) {
	for _, c := range []struct{ list, want []complex128 }{
		{nil, nil},
		{[]complex128{}, nil},
		{[]complex128{5 + 9i, 1 + 3i, 3 + 4i, 20 + 21i, 6 + 7i}, []complex128{1 + 4i, 5 + 9i, 20 + 21i}},
		{[]complex128{complex(0, highest), 5 + 6i}, []complex128{complex(0, highest)}},
		{[]complex128{complex(highest-1, highest), complex(0, highest-1)}, []complex128{complex(0, highest)}},
		{[]complex128{complex(highest-1, highest), complex(0, highest-2)}, []complex128{complex(0, highest-2), complex(highest-1, highest)}},
		{[]complex128{complex(highest-1, highest), 0 + 1i}, []complex128{0 + 1i, complex(highest-1, highest)}},
		{[]complex128{complex(negativeZero, 2), 0 + 1i}, []complex128{0 + 2i}},
		{[]complex128{0 + 1i, complex(negativeZero, 2)}, []complex128{0 + 2i}},
		{[]complex128{complex(negativeZero, 2)}, []complex128{0 + 2i}},
	} {
		if set, e := Join(c.list...); !same(set, c.want) || e != api.OK {
			t.Errorf("Join(%v): %v, %d", c.list, set, e)
		}
	}
	if set, e := Join(); len(set) != 0 || e != api.OK {
		t.Errorf("Join(): %v, %d", set, e)
	}
}

func TestJoinOfMany(t *testing.T) {
	var list, want []complex128
	for i := range 1000 {
		// 7 and 1000 have no common part, so each of the thousand comes once, out of order.
		at := float64(i * 7 % 1000 * 3)
		list = append(list, complex(at, at+2))
		want = append(want, complex(float64(i*3), float64(i*3+2)))
	}
	if set, e := Join(list...); !same(set, want) || e != api.OK {
		t.Errorf("Join of stretches apart: %d of them, %d", len(set), e)
	}
	for _, z := range want {
		list = append(list, complex(imag(z), imag(z)+1))
	}
	if set, e := Join(list...); !same(set, []complex128{3000i}) || e != api.OK {
		t.Errorf("Join of stretches that touch: %d of them, %d", len(set), e)
	}
}

func TestJoinOfWrongStretches(t *testing.T) {
	for _, z := range wrongStretches() {
		for _, list := range [][]complex128{{z}, {z, 1 + 2i}, {1 + 2i, z}, {9 + 12i, z, 1 + 30i}, {complex(0, highest), z}} {
			if set, e := Join(list...); len(set) != 0 || e != api.ErrForm {
				t.Errorf("Join(%v): %v, %d", list, set, e)
			}
		}
	}
}

func TestMeetAndLessWithinSmallNumbers(t *testing.T) {
	for a := range uint64(256) {
		for b := range uint64(256) {
			if set, e := Meet(setOf(a), setOf(b)); !same(set, setOf(a&b)) || e != api.OK {
				t.Errorf("Meet(%v, %v): %v, %d", setOf(a), setOf(b), set, e)
			}
			if set, e := Less(setOf(a), setOf(b)); !same(set, setOf(a&^b)) || e != api.OK {
				t.Errorf("Less(%v, %v): %v, %d", setOf(a), setOf(b), set, e)
			}
		}
	}
}

func TestMeetAndLessAtTheEnds(t *testing.T) {
	all, last, first := []complex128{complex(0, highest)}, []complex128{complex(highest-1, highest)}, []complex128{0 + 1i}
	odd := []complex128{1 + 2i, complex(highest-3, highest-2)}
	for i, c := range []struct{ a, b, meet, less []complex128 }{
		{nil, nil, nil, nil}, {all, nil, nil, all}, {nil, all, nil, nil}, {all, all, all, nil},
		{all, last, last, []complex128{complex(0, highest-1)}}, {last, all, last, nil},
		{all, first, first, []complex128{complex(1, highest)}}, {first, all, first, nil},
		{last, first, nil, last}, {first, last, nil, first},
		{all, []complex128{complex(0, highest-1)}, []complex128{complex(0, highest-1)}, last},
		{all, []complex128{complex(1, highest)}, []complex128{complex(1, highest)}, first},
		{last, []complex128{complex(0, highest-1)}, nil, last}, {first, []complex128{complex(1, highest)}, nil, first},
		{all, odd, odd, []complex128{0 + 1i, complex(2, highest-3), complex(highest-2, highest)}}, {odd, all, odd, nil},
		{[]complex128{complex(negativeZero, 5)}, []complex128{complex(negativeZero, 3)}, []complex128{0 + 3i}, []complex128{3 + 5i}},
		{[]complex128{complex(negativeZero, 5)}, []complex128{2 + 3i}, []complex128{2 + 3i}, []complex128{0 + 2i, 3 + 5i}},
		{[]complex128{0 + 5i}, []complex128{complex(negativeZero, 3)}, []complex128{0 + 3i}, []complex128{3 + 5i}},
	} {
		if set, e := Meet(c.a, c.b); !same(set, c.meet) || e != api.OK {
			t.Errorf("%d: Meet: %v, %d", i, set, e)
		}
		if set, e := Less(c.a, c.b); !same(set, c.less) || e != api.OK {
			t.Errorf("%d: Less: %v, %d", i, set, e)
		}
	}
}

// notSets: lists that are no sets, for wrong stretches or for their order.
func notSets() [][]complex128 {
	lists := slices.Clone(wrongSets)
	for _, z := range wrongStretches() {
		lists = append(lists, []complex128{z}, []complex128{1 + 2i, z}, []complex128{z, 30 + 40i})
	}
	return lists
}

func TestWhatIsNoSet(t *testing.T) {
	for _, wrong := range notSets() {
		for _, other := range [][]complex128{nil, {1 + 2i}, {complex(0, highest)}, wrong} {
			if set, e := Meet(wrong, other); len(set) != 0 || e != api.ErrForm {
				t.Errorf("Meet(%v, %v): %v, %d", wrong, other, set, e)
			}
			if set, e := Meet(other, wrong); len(set) != 0 || e != api.ErrForm {
				t.Errorf("Meet(%v, %v): %v, %d", other, wrong, set, e)
			}
			if set, e := Less(wrong, other); len(set) != 0 || e != api.ErrForm {
				t.Errorf("Less(%v, %v): %v, %d", wrong, other, set, e)
			}
			if set, e := Less(other, wrong); len(set) != 0 || e != api.ErrForm {
				t.Errorf("Less(%v, %v): %v, %d", other, wrong, set, e)
			}
		}
		if Covers(wrong, 1+2i) || Covers(wrong, 30+31i) || Size(wrong) != 0 {
			t.Errorf("Covers or Size of %v", wrong)
		}
	}
}

func TestCoversAndSizeWithinSmallNumbers(t *testing.T) {
	for in := range uint64(256) {
		set, size := setOf(in), 0
		for from := range 9 {
			size += int(in >> from & 1)
			for to := from + 1; to <= 9; to++ {
				z := complex(float64(from), float64(to))
				want := bits([]complex128{z})&^in == 0
				if Covers(set, z) != want {
					t.Errorf("Covers(%v, %v) is %v", set, z, !want)
				}
			}
		}
		if Size(set) != size {
			t.Errorf("Size(%v) is %d", set, Size(set))
		}
	}
}

func TestCoversAtTheEnds(t *testing.T) {
	all := []complex128{complex(0, highest)}
	for _, z := range wrongStretches() {
		if Covers(all, z) || Covers(nil, z) || Covers([]complex128{z}, z) {
			t.Errorf("Covers with %v", z)
		}
	}
	for i, c := range []struct {
		list []complex128
		z    complex128
		want bool
	}{
		{all, all[0], true}, {all, 0 + 1i, true}, {all, complex(highest-1, highest), true}, {nil, 0 + 1i, false},
		{[]complex128{complex(0, highest-1)}, all[0], false}, {[]complex128{complex(1, highest)}, all[0], false},
		{[]complex128{complex(0, highest-1)}, complex(highest-2, highest-1), true}, {[]complex128{complex(0, highest-1)}, complex(highest-1, highest), false},
		{[]complex128{0 + 5i}, complex(negativeZero, 5), true}, {[]complex128{complex(negativeZero, 5)}, 0 + 5i, true},
	} {
		if Covers(c.list, c.z) != c.want {
			t.Errorf("%d: Covers(%v, %v) is %v", i, c.list, c.z, !c.want)
		}
	}
}

func TestSizeAtTheEnds(t *testing.T) {
	for i, c := range []struct {
		list []complex128
		want int
	}{
		{nil, 0}, {[]complex128{}, 0}, {[]complex128{complex(0, highest)}, highest}, {[]complex128{complex(highest-1, highest)}, 1},
		{[]complex128{complex(0, highest-2), complex(highest-1, highest)}, highest - 1}, {[]complex128{complex(negativeZero, 3)}, 3},
	} {
		if Size(c.list) != c.want {
			t.Errorf("%d: Size(%v) is %d", i, c.list, Size(c.list))
		}
	}
}

// roomy: a list with spare room behind it, and the whole of both.
func roomy(list ...complex128) (short, whole []complex128) {
	whole = append(slices.Clone(list), 77+78i, 88+89i, 99+100i)
	return whole[:len(list)], whole
}

func TestNothingHandedInIsChanged(t *testing.T) {
	a, wholeA := roomy(1+4i, 6+9i, 12+13i)
	b, wholeB := roomy(3+7i, 8+10i)
	mixed, wholeMixed := roomy(6+9i, 1+4i, 3+7i)
	wasA, wasB, wasMixed := slices.Clone(wholeA), slices.Clone(wholeB), slices.Clone(wholeMixed)
	Join(mixed...)
	Join(a...)
	Meet(a, b)
	Less(a, b)
	Sound(a)
	Covers(a, 2+3i)
	Size(a)
	if !same(wholeA, wasA) || !same(wholeB, wasB) || !same(wholeMixed, wasMixed) {
		t.Error("a list that was handed in is another one now")
	}
}

// TestAnswersAreNewMemory: whoever writes to an answer, spare room included, changes no argument and no other answer.
func TestAnswersAreNewMemory(t *testing.T) {
	a, wholeA := roomy(1+4i, 6+9i)
	none, wholeNone := roomy()
	all, wholeAll := roomy(complex(0, highest))
	lists := [][]complex128{wholeA, wholeNone, wholeAll}
	answer := func(set []complex128, e api.Errno) {
		if e != api.OK {
			t.Fatal(e)
		}
		lists = append(lists, set[:cap(set)])
	}
	for range 2 {
		answer(Join(a...))
		answer(Join(none...))
		answer(Meet(a, all))
		answer(Meet(a, a))
		answer(Less(a, none))
		answer(Less(a, a))
		answer(Less(all, a))
	}
	for i, list := range lists {
		for j := range list {
			list[j] = complex(float64(i), -1)
		}
	}
	for i, list := range lists {
		for _, z := range list {
			if z != complex(float64(i), -1) {
				t.Fatalf("list %d shares memory with another one", i)
			}
		}
	}
}
