package marks

import (
	"bytes"
	"math"
	"math/rand"
	"testing"

	"copyhold/api"
)

// The document's own bounds, not the program's.
const (
	length = 128
	last   = 1023
)

// wrongNumbers: numbers that no map has, those among them that would be right if bits of them were lost.
var wrongNumbers = []int{-1, -2, -8, -last, last + 1, last + 2, last + 9, 2048, 1 << 16, 1 << 31, 1<<32 - 1, 1 << 32, 1<<32 + 7, math.MinInt, math.MinInt + 7, math.MaxInt}

// otherEnds: wrong as an end, whatever the other one is; last+1 is a right one for to.
var otherEnds = []int{-1, -2, -8, -last, last + 2, last + 9, 2048, 1 << 16, 1 << 31, 1<<32 - 1, 1 << 32, 1<<32 + 7, math.MinInt, math.MinInt + 7, math.MaxInt}

// picture: what is marked, a flag for each number.
type picture [last + 1]bool

// bytesOf: by the chapter's words, bit n%8 of byte n/8, the lowest first.
func bytesOf(p picture) []byte {
	b := make([]byte, length)
	worth := [8]byte{1, 2, 4, 8, 16, 32, 64, 128}
	for n, on := range p {
		if on {
			b[n/8] += worth[n%8]
		}
	}
	return b
}

// first: in a picture; -1, if there is none.
func (p *picture) first(from, to int) int {
	for n := from; n < to; n++ {
		if !p[n] {
			return n
		}
	}
	return -1
}

// count: in a picture.
func (p *picture) count(from, to int) int {
	count := 0
	for n := from; n < to; n++ {
		if p[n] {
			count++
		}
	}
	return count
}

// pictures: nothing, everything, and of each kind between them.
func pictures() []picture {
	var none, all, odd, front, back, gap, lone picture
	for n := range all {
		all[n] = true
		odd[n] = n%2 == 1
		front[n] = n < 500
		back[n] = n >= 500
		gap[n] = n != 517
	}
	lone[last] = true
	list := []picture{none, all, odd, front, back, gap, lone}
	r := rand.New(rand.NewSource(9))
	for _, part := range []int{2, 10, 50, 90, 98} {
		var p picture
		for n := range p {
			p[n] = r.Intn(100) < part
		}
		list = append(list, p)
	}
	return list
}

// isCounted: First and Count tell what the picture has between the two.
func isCounted(t *testing.T, p *picture, b []byte, from, to int) {
	t.Helper()
	want, wrong := p.first(from, to), api.OK
	if want < 0 {
		want, wrong = 0, api.ErrSpace
	}
	if n, e := First(b, from, to); n != want || e != wrong {
		t.Errorf("First(%d, %d): %d, %d; it is %d, %d", from, to, n, e, want, wrong)
	}
	if n, e := Count(b, from, to); n != p.count(from, to) || e != api.OK {
		t.Errorf("Count(%d, %d): %d, %d; it is %d", from, to, n, e, p.count(from, to))
	}
}

// P9.1: Has tells of each number.
func TestHas(t *testing.T) {
	for _, p := range pictures() {
		b := bytesOf(p)
		for n, want := range p {
			if on, e := Has(b, n); on != want || e != api.OK {
				t.Errorf("Has(%d): %t, %d", n, on, e)
			}
		}
	}
}

// P9.1: Set answers a map in which just that is as told, and does not change its own.
func TestSet(t *testing.T) {
	for _, p := range pictures() {
		b, was := bytesOf(p), bytesOf(p)
		for n := range p {
			for _, on := range []bool{false, true} {
				want := p
				want[n] = on
				if c, e := Set(b, n, on); e != api.OK || !bytes.Equal(c, bytesOf(want)) {
					t.Errorf("Set(%d, %t): %v, %d", n, on, c, e)
				}
				if !bytes.Equal(b, was) {
					t.Fatalf("Set(%d, %t) changes what it is given", n, on)
				}
			}
		}
	}
}

// P9.1: maps that are written out here.
func TestWrittenOut(t *testing.T) {
	b := make([]byte, length)
	for _, n := range []int{0, 3, 8, 23, 1016, 1023} {
		b, _ = Set(b, n, true)
	}
	want := "\x09\x01\x80" + string(make([]byte, 124)) + "\x81"
	if string(b) != want {
		t.Errorf("%v", b)
	}
	for _, c := range []struct{ from, to, first, count int }{
		{0, 1024, 1, 6}, {0, 1, -1, 1}, {1, 1, -1, 0}, {0, 0, -1, 0}, {1024, 1024, -1, 0}, {3, 5, 4, 1}, {3, 4, -1, 1},
		{1023, 1024, -1, 1}, {1016, 1023, 1017, 1}, {1016, 1024, 1017, 2}, {9, 23, 9, 0}, {23, 1016, 24, 1}, {4, 8, 4, 0},
	} {
		n, e := First(b, c.from, c.to)
		if c.first < 0 && (n != 0 || e != api.ErrSpace) || c.first >= 0 && (n != c.first || e != api.OK) {
			t.Errorf("First(%d, %d): %d, %d", c.from, c.to, n, e)
		}
		if n, e := Count(b, c.from, c.to); n != c.count || e != api.OK {
			t.Errorf("Count(%d, %d): %d, %d", c.from, c.to, n, e)
		}
	}
}

// P9.1: First and Count, between all ends that are near one of a byte or of the map, and others.
func TestBetween(t *testing.T) {
	ends := []int{0, 1, 2, 7, 8, 9, 15, 16, 17, 255, 256, 499, 500, 501, 516, 517, 518, 519, 1015, 1016, 1017, 1022, 1023, 1024}
	r := rand.New(rand.NewSource(91))
	for _, p := range pictures() {
		b := bytesOf(p)
		for _, from := range ends {
			for _, to := range ends {
				if from <= to {
					isCounted(t, &p, b, from, to)
				}
			}
		}
		for range 300 {
			to := r.Intn(last + 2)
			isCounted(t, &p, b, r.Intn(to+1), to)
		}
	}
}

// P9.1: nothing is left where all are marked, or where there is no number between the two, as at the map's very end.
func TestNoSpace(t *testing.T) {
	full := bytes.Repeat([]byte{255}, length)
	empty := make([]byte, length)
	for n := range last + 2 {
		for _, c := range []struct {
			b        []byte
			from, to int
		}{{full, 0, n}, {full, n, last + 1}, {full, n, n}, {empty, n, n}} {
			if got, e := First(c.b, c.from, c.to); got != 0 || e != api.ErrSpace {
				t.Errorf("First(%d, %d): %d, %d", c.from, c.to, got, e)
			}
		}
		if got, e := Count(full, 0, n); got != n || e != api.OK {
			t.Errorf("Count(0, %d): %d, %d", n, got, e)
		}
	}
}

// wrongNumber: Has and Set tell just that error.
func wrongNumber(t *testing.T, b []byte, n int, want api.Errno) {
	t.Helper()
	if on, e := Has(b, n); on || e != want {
		t.Errorf("Has(%d bytes, %d): %t, %d", len(b), n, on, e)
	}
	for _, on := range []bool{false, true} {
		if c, e := Set(b, n, on); len(c) != 0 || e != want {
			t.Errorf("Set(%d bytes, %d, %t): %v, %d", len(b), n, on, c, e)
		}
	}
}

// wrongEnds: First and Count tell just that error.
func wrongEnds(t *testing.T, b []byte, from, to int, want api.Errno) {
	t.Helper()
	if n, e := First(b, from, to); n != 0 || e != want {
		t.Errorf("First(%d bytes, %d, %d): %d, %d", len(b), from, to, n, e)
	}
	if n, e := Count(b, from, to); n != 0 || e != want {
		t.Errorf("Count(%d bytes, %d, %d): %d, %d", len(b), from, to, n, e)
	}
}

// P9.1: numbers that are not from 0 to 1023, and ends below 0, above 1024, or the wrong way round.
func TestRange(t *testing.T) {
	for _, b := range [][]byte{make([]byte, length), bytes.Repeat([]byte{255}, length)} {
		for _, n := range wrongNumbers {
			wrongNumber(t, b, n, api.ErrRange)
		}
		for _, n := range otherEnds {
			for _, other := range []int{0, 1, 7, last, last + 1, n} {
				wrongEnds(t, b, n, other, api.ErrRange)
				wrongEnds(t, b, other, n, api.ErrRange)
			}
			wrongEnds(t, b, n, n+1, api.ErrRange)
		}
		for n := range last + 1 {
			wrongEnds(t, b, n+1, n, api.ErrRange)
			wrongEnds(t, b, last+1, n, api.ErrRange)
		}
	}
}

// P9.1, R2: bytes that are no map tell so first, whatever the numbers are.
func TestArg(t *testing.T) {
	lengths := []int{length - 1, length + 1, 1 << 16}
	for n := range 2 * length {
		if n != length {
			lengths = append(lengths, n)
		}
	}
	numbers := append([]int{0, 1, 7, last}, wrongNumbers...)
	for _, l := range lengths {
		b := make([]byte, l)
		for _, n := range numbers {
			wrongNumber(t, b, n, api.ErrArg)
			wrongEnds(t, b, 0, n, api.ErrArg)
			wrongEnds(t, b, n, last+1, api.ErrArg)
			wrongEnds(t, b, n, n, api.ErrArg)
		}
	}
	wrongNumber(t, nil, 0, api.ErrArg)
	wrongEnds(t, nil, 0, 0, api.ErrArg)
	// Its room would do, its length does not.
	wrongNumber(t, make([]byte, 0, length), 0, api.ErrArg)
	wrongEnds(t, make([]byte, length-1, length), 0, 8, api.ErrArg)
}

// R4: what is handed in is not changed, its spare room included, and what is answered is new memory.
func TestMemory(t *testing.T) {
	room := append(bytes.Repeat([]byte{0x5A}, length), "spare room"...)
	was := bytes.Clone(room)
	b := room[:length]
	for _, n := range []int{0, 1, last} {
		for _, on := range []bool{false, true} {
			first, _ := Set(b, n, on)
			want := bytes.Clone(first)
			all := first[:cap(first)]
			for i := range all {
				all[i] ^= 0xA5
			}
			if second, e := Set(b, n, on); e != api.OK || !bytes.Equal(second, want) {
				t.Errorf("Set(%d, %t) behind a change of its answer: %v, %d", n, on, second, e)
			}
		}
		Has(b, n)
		First(b, 0, n)
		Count(b, n, last+1)
	}
	if !bytes.Equal(room, was) {
		t.Error("what is handed in is changed")
	}
}
