package tree

import (
	"bytes"
	"math"
	"math/rand"
	"slices"
	"testing"

	"copyhold/api"
)

// The document's own bounds, not the program's.
const (
	length    = 128
	direct    = 4
	fan       = 8
	blocks    = 76
	largest   = 9728
	firstData = 43
	lastData  = 1023
)

// rightPointers: what a pointer may be; the ends, and some whose two bytes are others.
var rightPointers = []int{0, firstData, firstData + 1, 64, 255, 256, 0x0102, 0x0201, 512, lastData - 1, lastData}

// wrongPointers: what it may not be, those among them that would be right if bits of them were lost.
var wrongPointers = []int{1, 2, firstData - 1, lastData + 1, lastData + 2, -1, -firstData, -lastData, 4095, 1<<16 - 1, 1 << 16, 1<<16 + 50, 1<<32 + 50, 1 << 32, math.MinInt + 50, math.MinInt, math.MaxInt}

// sector: pointers by the chapter's words, as far as they fit.
func sector(list ...int) []byte {
	b := make([]byte, length)
	for i, n := range list {
		b[2*i], b[2*i+1] = byte(n%256), byte(n/256)
	}
	return b
}

// some: pointers, no two of them the same.
func some() []int {
	return []int{43, 0, 258, 1023, 513, 77, 300, 1000}
}

// P11.1: ways that are written out here.
func TestRouteWrittenOut(t *testing.T) {
	for n, want := range map[int][]int{
		0: {0}, 1: {1}, 2: {2}, 3: {3},
		4: {4, 0}, 5: {4, 1}, 10: {4, 6}, 11: {4, 7},
		12: {5, 0, 0}, 13: {5, 0, 1}, 19: {5, 0, 7}, 20: {5, 1, 0}, 27: {5, 1, 7}, 28: {5, 2, 0}, 67: {5, 6, 7}, 68: {5, 7, 0}, 74: {5, 7, 6}, 75: {5, 7, 7},
	} {
		if l, e := Route(n); e != api.OK || !slices.Equal(l, want) {
			t.Errorf("Route(%d): %v, %d", n, l, e)
		}
	}
}

// P11.1: all ways, in order: each block has one of its own, and there are no more.
func TestRouteAll(t *testing.T) {
	var want [][]int
	for i := range direct {
		want = append(want, []int{i})
	}
	for i := range fan {
		want = append(want, []int{direct, i})
	}
	for i := range fan {
		for k := range fan {
			want = append(want, []int{direct + 1, i, k})
		}
	}
	if len(want) != blocks {
		t.Fatalf("%d ways", len(want))
	}
	for n, way := range want {
		if l, e := Route(n); e != api.OK || !slices.Equal(l, way) {
			t.Errorf("Route(%d): %v, %d", n, l, e)
		}
	}
}

// P11.1: blocks that no file has.
func TestRouteWrong(t *testing.T) {
	for _, n := range []int{-1, -2, -4, -12, -76, blocks, blocks + 1, 127, 128, 256, largest, 1 << 16, 1 << 32, 1<<32 + 5, math.MinInt, math.MinInt + 1, math.MinInt + 11, math.MinInt + 12, math.MinInt + 13, math.MaxInt - 1, math.MaxInt} {
		if l, e := Route(n); len(l) != 0 || e != api.ErrRange {
			t.Errorf("Route(%d): %v, %d", n, l, e)
		}
	}
}

// isRight: they are that sector, which says them again.
func isRight(t *testing.T, list []int, want []byte) {
	t.Helper()
	if b, e := Encode(list); e != api.OK || !bytes.Equal(b, want) {
		t.Errorf("Encode(%v): %v, %d", list, b, e)
	}
	if l, e := Decode(want); e != api.OK || !slices.Equal(l, list) {
		t.Errorf("Decode of %v: %v, %d", list, l, e)
	}
}

// isArg: Encode tells just that.
func isArg(t *testing.T, list []int) {
	t.Helper()
	if b, e := Encode(list); len(b) != 0 || e != api.ErrArg {
		t.Errorf("Encode(%v): %v, %d", list, b, e)
	}
}

// isNone: Decode tells that they are no pointers, and nothing else.
func isNone(t *testing.T, b []byte) {
	t.Helper()
	if l, e := Decode(b); len(l) != 0 || e != api.ErrForm {
		t.Errorf("Decode(%v): %v, %d", b, l, e)
	}
}

// P11.1: sectors that are written out here.
func TestPointersWrittenOut(t *testing.T) {
	tail := string(make([]byte, 112))
	for _, c := range []struct {
		list []int
		want string
	}{
		{make([]int, 8), string(make([]byte, 128))},
		{[]int{43, 0, 0, 0, 0, 0, 0, 1023}, "\x2b\x00" + string(make([]byte, 12)) + "\xff\x03" + tail},
		{[]int{0x0101, 0x0102, 0x0203, 0x0304, 0x0035, 0x0106, 0x0207, 0x0308}, "\x01\x01\x02\x01\x03\x02\x04\x03\x35\x00\x06\x01\x07\x02\x08\x03" + tail},
		{[]int{50, 50, 50, 50, 50, 50, 50, 50}, "2\x002\x002\x002\x002\x002\x002\x002\x00" + tail},
	} {
		isRight(t, c.list, []byte(c.want))
	}
}

// P11.1: each pointer at its ends, with others beside it and without.
func TestPointerEnds(t *testing.T) {
	for i := range fan {
		for _, others := range [][]int{make([]int, fan), some()} {
			for _, n := range rightPointers {
				list := slices.Clone(others)
				list[i] = n
				isRight(t, list, sector(list...))
			}
			for _, n := range wrongPointers {
				list := slices.Clone(others)
				list[i] = n
				isArg(t, list)
			}
		}
	}
}

// P11.1: each number that a pointer's two bytes have room for.
func TestEachPointer(t *testing.T) {
	for n := range 1 << 16 {
		for i := range fan {
			list := some()
			list[i] = n
			if n == 0 || n >= firstData && n <= lastData {
				isRight(t, list, sector(list...))
			} else {
				isArg(t, list)
				isNone(t, sector(list...))
			}
		}
	}
}

// P11.1: other than Fan numbers are none, however right each of them is.
func TestEncodeLength(t *testing.T) {
	isArg(t, nil)
	for n := range 200 {
		if n == fan {
			continue
		}
		isArg(t, make([]int, n))
		isArg(t, slices.Repeat([]int{50}, n))
	}
	isArg(t, make([]int, 1<<16))
	// Their room would do, their length does not.
	isArg(t, make([]int, 7, 8))
	isArg(t, some()[:0])
	isArg(t, some()[:7])
}

// P11.1: other than Sector bytes are no pointers.
func TestDecodeLength(t *testing.T) {
	isNone(t, nil)
	for n := range 2*length + 1 {
		if n == length {
			continue
		}
		isNone(t, make([]byte, n))
		isNone(t, append(sector(some()...), make([]byte, length)...)[:n])
	}
	isNone(t, make([]byte, 1<<16))
	isNone(t, make([]byte, 16, length))
}

// P11.1: behind the pointers each bit is 0.
func TestDecodeTail(t *testing.T) {
	for _, list := range [][]int{make([]int, fan), some()} {
		for bit := 16 * 8; bit < length*8; bit++ {
			b := sector(list...)
			b[bit/8] |= 1 << (bit % 8)
			isNone(t, b)
		}
		// A ninth one is no pointer, either.
		b := sector(list...)
		b[16] = firstData
		isNone(t, b)
	}
	isNone(t, bytes.Repeat([]byte{255}, length))
}

// P11.1: how many blocks there are, by counting.
func TestBlocks(t *testing.T) {
	if n := Blocks(0); n != 0 {
		t.Errorf("Blocks(0): %d", n)
	}
	want := 0
	for size := 1; size <= 2*largest; size++ {
		if size%length == 1 {
			want++
		}
		if n := Blocks(size); n != want {
			t.Fatalf("Blocks(%d): %d", size, n)
		}
	}
	for size, want := range map[int]int{1: 1, 127: 1, 128: 1, 129: 2, 256: 2, 257: 3, 9600: 75, 9601: 76, largest: blocks, largest + 1: 77, 1 << 32: 1 << 25, 1<<32 + 1: 1<<25 + 1} {
		if n := Blocks(size); n != want {
			t.Errorf("Blocks(%d): %d", size, n)
		}
	}
}

// P11.1: of less than 1 none, and of the greatest sizes as many as there are.
func TestBlocksEnds(t *testing.T) {
	for _, size := range []int{-1, -2, -127, -128, -129, -largest, math.MinInt, math.MinInt + 1, math.MinInt + 127} {
		if n := Blocks(size); n != 0 {
			t.Errorf("Blocks(%d): %d", size, n)
		}
	}
	// MaxInt is 1 less than a multiple of Sector.
	whole := math.MaxInt/length + 1
	for k := range length {
		if n := Blocks(math.MaxInt - k); k < length-1 && n != whole || k == length-1 && n != whole-1 {
			t.Errorf("Blocks(MaxInt - %d): %d", k, n)
		}
	}
}

// partsOf: by the chapter's words, byte by byte.
func partsOf(at, size int) []Part {
	var list []Part
	for n := at; n < at+size; n++ {
		if len(list) == 0 || list[len(list)-1].Block != n/length {
			list = append(list, Part{n / length, n % length, n % length})
		}
		list[len(list)-1].To++
	}
	return list
}

// isParts: Parts answers these.
func isParts(t *testing.T, at, size int, want []Part) {
	t.Helper()
	if l, e := Parts(at, size); e != api.OK || !slices.Equal(l, want) {
		t.Errorf("Parts(%d, %d): %v, %d", at, size, l, e)
	}
}

// isOut: Parts tells that there is such a byte nowhere.
func isOut(t *testing.T, at, size int) {
	t.Helper()
	if l, e := Parts(at, size); len(l) != 0 || e != api.ErrRange {
		t.Errorf("Parts(%d, %d): %v, %d", at, size, l, e)
	}
}

// P11.2: parts that are written out here.
func TestPartsWrittenOut(t *testing.T) {
	isParts(t, 0, 1, []Part{{0, 0, 1}})
	isParts(t, 5, 3, []Part{{0, 5, 8}})
	isParts(t, 0, 128, []Part{{0, 0, 128}})
	isParts(t, 0, 129, []Part{{0, 0, 128}, {1, 0, 1}})
	isParts(t, 127, 1, []Part{{0, 127, 128}})
	isParts(t, 127, 2, []Part{{0, 127, 128}, {1, 0, 1}})
	isParts(t, 128, 128, []Part{{1, 0, 128}})
	isParts(t, 100, 200, []Part{{0, 100, 128}, {1, 0, 128}, {2, 0, 44}})
	isParts(t, 9727, 1, []Part{{75, 127, 128}})
	isParts(t, 9599, 129, []Part{{74, 127, 128}, {75, 0, 128}})
}

// P11.2: a whole file has each block as a whole.
func TestPartsWhole(t *testing.T) {
	var want []Part
	for n := range blocks {
		want = append(want, Part{n, 0, length})
	}
	isParts(t, 0, largest, want)
}

// P11.2: stretches of all kinds, by counting bytes; those that begin or end at a block's edge among them.
func TestPartsCounted(t *testing.T) {
	sizes := []int{0, 1, 2, 127, 128, 129, 255, 256, 257, 1000}
	for at := range largest + 1 {
		for _, size := range sizes {
			if at+size <= largest {
				isParts(t, at, size, partsOf(at, size))
			} else {
				isOut(t, at, size)
			}
		}
	}
	r := rand.New(rand.NewSource(111))
	for range 2000 {
		at := r.Intn(largest + 1)
		size := r.Intn(largest - at + 1)
		isParts(t, at, size, partsOf(at, size))
		isParts(t, at, largest-at, partsOf(at, largest-at))
		isOut(t, at, largest-at+1)
	}
}

// P11.2: without a byte there are no parts, and no byte that is nowhere.
func TestPartsNone(t *testing.T) {
	for _, at := range []int{0, 1, 127, 128, largest - 1, largest, largest + 1, 1 << 32, math.MaxInt} {
		isParts(t, at, 0, nil)
	}
}

// P11.2: what is below 0, and bytes that no file has, sums among them that would wrap round.
func TestPartsWrong(t *testing.T) {
	for _, n := range []int{-1, -2, -128, -largest, math.MinInt, math.MinInt + 1, math.MinInt + largest, math.MinInt + largest + 1} {
		for _, m := range []int{0, 1, 5, 128, largest, largest + 1, math.MaxInt, -1, math.MinInt} {
			isOut(t, n, m)
			isOut(t, m, n)
		}
	}
	for _, c := range [][2]int{
		{0, largest + 1}, {1, largest}, {largest - 1, 2}, {largest, 1}, {largest + 1, 1}, {128, 9601},
		{1 << 32, 1}, {1, 1 << 32}, {1 << 32, 1 << 32}, {0, math.MaxInt}, {1, math.MaxInt}, {2, math.MaxInt}, {largest, math.MaxInt},
		{math.MaxInt, 1}, {math.MaxInt, 2}, {math.MaxInt, largest}, {math.MaxInt, math.MaxInt}, {1 << 62, 1 << 62}, {math.MaxInt - 1, math.MaxInt - 1},
	} {
		isOut(t, c[0], c[1])
	}
}

// R4: what is handed in is not changed, its spare room included.
func TestHandedIn(t *testing.T) {
	room := append(some(), 1, 2, 3, 4, 5, 6, 7, 8)
	was := slices.Clone(room)
	Encode(room[:fan])
	Encode(room[:fan-1])
	Encode(room)
	if !slices.Equal(room, was) {
		t.Errorf("Encode changes what it is given: %v", room)
	}
	for _, b := range [][]byte{sector(some()...), sector(5), bytes.Repeat([]byte{255}, length)} {
		all := append(b, "spare room"...)
		was := bytes.Clone(all)
		Decode(all[:length])
		Decode(all)
		if !bytes.Equal(all, was) {
			t.Errorf("Decode changes what it is given: %v", all)
		}
	}
}

// spoil: all of a list's room gets another value.
func spoil[T any](list []T, v T) {
	for i := range list[:cap(list)] {
		list[:cap(list)][i] = v
	}
}

// R4, R5: what is answered is new memory each time.
func TestAnswered(t *testing.T) {
	for _, n := range []int{0, 3, 4, 11, 12, 75} {
		first, _ := Route(n)
		want := slices.Clone(first)
		spoil(first, -7)
		if second, e := Route(n); e != api.OK || !slices.Equal(second, want) {
			t.Errorf("Route(%d) behind a change of its answer: %v, %d", n, second, e)
		}
	}
	list, b := some(), sector(some()...)
	one, _ := Encode(list)
	spoil(one, 0xA5)
	two, _ := Decode(b)
	spoil(two, -7)
	if !slices.Equal(list, some()) || !bytes.Equal(b, sector(some()...)) {
		t.Errorf("answers share memory with what was handed in: %v, %v", list, b)
	}
	isRight(t, list, b)
	parts, _ := Parts(100, 200)
	spoil(parts, Part{-7, -7, -7})
	isParts(t, 100, 200, partsOf(100, 200))
}
