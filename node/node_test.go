package node

import (
	"bytes"
	"encoding/binary"
	"math"
	"math/rand"
	"slices"
	"testing"

	"copyhold/api"
)

// The document's own bounds, not the program's.
const (
	length    = 128
	size      = 32
	places    = 4
	last      = 1073741824
	largest   = 9728
	firstData = 43
	lastData  = 1023
)

// rightCounts: what Gen and Change may be; the ends, and some whose bytes are all others.
var rightCounts = []int{0, 1, 7, 255, 256, 65535, 65536, 0x01020304, 0x3c2b1a09, last - 1, last}

// wrongCounts: what they may not be, those among them that would be right if bits of them were lost.
var wrongCounts = []int{-1, -2, -last, last + 1, last + 2, 1<<31 - 1, 1 << 31, 1<<32 - 1, 1 << 32, 1<<32 + 7, 1<<40 + 7, math.MinInt + 7, math.MinInt, math.MaxInt}

// rightPointers, wrongPointers: likewise for a pointer.
var (
	rightPointers = []int{0, firstData, firstData + 1, 64, 255, 256, 0x0102, 512, lastData - 1, lastData}
	wrongPointers = []int{1, 2, firstData - 1, lastData + 1, lastData + 2, -1, -firstData, 4095, 1<<16 - 1, 1 << 16, 1<<16 + 50, 1<<32 + 50, math.MinInt + 50, math.MinInt, math.MaxInt}
)

// pointerNames: where a node has pointers, in the chapter's order.
var pointerNames = []string{"Direct 0", "Direct 1", "Direct 2", "Direct 3", "One", "Two"}

// pointer: one of a node, by its place in that order.
func pointer(x *api.Node, k int) *int {
	return []*int{&x.Direct[0], &x.Direct[1], &x.Direct[2], &x.Direct[3], &x.One, &x.Two}[k]
}

// bytesOf: a node by the chapter's words, whatever its numbers are, as far as they fit.
func bytesOf(x api.Node) []byte {
	b := make([]byte, size)
	b[0], b[1] = byte(x.Kind), byte(x.Links)
	binary.LittleEndian.PutUint32(b[2:], uint32(x.Gen))
	binary.LittleEndian.PutUint32(b[6:], uint32(x.Size))
	binary.LittleEndian.PutUint32(b[10:], uint32(x.Change))
	for k := range pointerNames {
		binary.LittleEndian.PutUint16(b[14+2*k:], uint16(*pointer(&x, k)))
	}
	return b
}

// noise: a sector of bytes that are no nodes, the same at each call.
func noise() []byte {
	b := make([]byte, length)
	for i := range b {
		b[i] = byte(37*i + 201)
	}
	return b
}

// with: a sector, with a node's bytes at a place.
func with(b []byte, i int, part []byte) []byte {
	b = bytes.Clone(b)
	copy(b[size*i:size*i+size], part)
	return b
}

// isRight: it is sound, has those bytes at each place, whatever lies beside it, and they say it again.
func isRight(t *testing.T, x api.Node) {
	t.Helper()
	if !Sound(x) {
		t.Errorf("Sound(%v): false", x)
	}
	for i := range places {
		want := with(noise(), i, bytesOf(x))
		if b, e := Put(noise(), i, x); e != api.OK || !bytes.Equal(b, want) {
			t.Errorf("Put(%d, %v): %v, %d", i, x, b, e)
		}
		if y, e := Get(want, i); e != api.OK || y != x {
			t.Errorf("Get(%d) of %v: %v, %d", i, x, y, e)
		}
	}
}

// isWrong: it is not sound, and can be put nowhere.
func isWrong(t *testing.T, x api.Node) {
	t.Helper()
	if Sound(x) {
		t.Errorf("Sound(%v): true", x)
	}
	for i := range places {
		if b, e := Put(make([]byte, length), i, x); len(b) != 0 || e != api.ErrForm {
			t.Errorf("Put(%d, %v): %v, %d", i, x, b, e)
		}
	}
}

// isNone: Get tells, at each place, that these bytes are no node, and nothing else.
func isNone(t *testing.T, what string, part []byte) {
	t.Helper()
	for i := range places {
		for _, b := range [][]byte{make([]byte, length), noise()} {
			if x, e := Get(with(b, i, part), i); x != (api.Node{}) || e != api.ErrForm {
				t.Errorf("%s: Get(%d) of %v: %v, %d", what, i, part, x, e)
			}
		}
	}
}

// file, dir: with some of everything.
func file() api.Node {
	return api.Node{Kind: 1, Links: 2, Gen: 5, Size: 300, Change: 6, Direct: [4]int{43, 0, 1023, 258}, One: 50, Two: 60}
}

func dir() api.Node {
	return api.Node{Kind: 2, Links: 1, Gen: 9, Size: 64, Change: 3, Direct: [4]int{77, 0, 0, 0}}
}

// P10.1: nodes that are written out here.
func TestWrittenOut(t *testing.T) {
	for _, c := range []struct {
		x    api.Node
		want string
	}{
		{api.Node{}, string(make([]byte, 32))},
		{api.Node{Gen: 0x01020304, Change: last}, "\x00\x00" + "\x04\x03\x02\x01" + "\x00\x00\x00\x00" + "\x00\x00\x00\x40" + string(make([]byte, 18))},
		{api.Node{Kind: 1, Links: 255, Gen: last, Size: largest, Change: 0x0a0b0c0d, Direct: [4]int{0x0101, 0x0202, 0x0303, 43}, One: 0x0123, Two: 0x03fe},
			"\x01\xff" + "\x00\x00\x00\x40" + "\x00\x26\x00\x00" + "\x0d\x0c\x0b\x0a" + "\x01\x01\x02\x02\x03\x03\x2b\x00" + "\x23\x01" + "\xfe\x03" + "\x00\x00\x00\x00\x00\x00"},
		{api.Node{Kind: 2, Links: 1, Gen: 1, Size: 32, Change: 2, Two: 1023},
			"\x02\x01" + "\x01\x00\x00\x00" + "\x20\x00\x00\x00" + "\x02\x00\x00\x00" + string(make([]byte, 10)) + "\xff\x03" + "\x00\x00\x00\x00\x00\x00"},
	} {
		isRight(t, c.x)
		for i := range places {
			want := string(make([]byte, 32*i)) + c.want + string(make([]byte, 96-32*i))
			if b, e := Put(make([]byte, length), i, c.x); e != api.OK || string(b) != want {
				t.Errorf("Put(%d, %v): %q, %d", i, c.x, b, e)
			}
		}
	}
}

// P10.1: Gen and Change, of each kind of node.
func TestCounts(t *testing.T) {
	for _, x := range []api.Node{{}, file(), dir()} {
		for _, n := range rightCounts {
			for _, m := range rightCounts {
				y := x
				y.Gen, y.Change = n, m
				isRight(t, y)
			}
		}
		for _, n := range wrongCounts {
			for _, m := range []int{0, last, n} {
				y := x
				y.Gen, y.Change = n, m
				isWrong(t, y)
				y.Gen, y.Change = m, n
				isWrong(t, y)
			}
		}
	}
}

// P10.1: each pointer of files and directories, at its ends, also where no block of it could be needed.
func TestPointers(t *testing.T) {
	for _, x := range []api.Node{file(), dir(), {Kind: 1, Links: 1}, {Kind: 2, Links: 1}} {
		for k := range pointerNames {
			for _, n := range rightPointers {
				y := x
				*pointer(&y, k) = n
				isRight(t, y)
			}
			for _, n := range wrongPointers {
				y := x
				*pointer(&y, k) = n
				isWrong(t, y)
			}
		}
	}
}

// P10.1: each number that a pointer's two bytes have room for.
func TestEachPointer(t *testing.T) {
	for k, name := range pointerNames {
		for n := range 1 << 16 {
			x := file()
			*pointer(&x, k) = n
			sound := n == 0 || n >= firstData && n <= lastData
			y, e := Get(with(noise(), k%places, bytesOf(x)), k%places)
			if Sound(x) != sound || sound && (y != x || e != api.OK) || !sound && (y != (api.Node{}) || e != api.ErrForm) {
				t.Fatalf("%s is %d: %t, %v, %d", name, n, Sound(x), y, e)
			}
		}
	}
}

// P10.1: each of a free node's other numbers must be 0, though it could be there in a file.
func TestFree(t *testing.T) {
	for _, free := range []api.Node{{}, {Gen: 7}, {Change: 7}, {Gen: last, Change: last}} {
		isRight(t, free)
		for _, n := range []int{1, 2, 32, 255, -1, 256, math.MinInt, math.MaxInt} {
			x := free
			x.Links = n
			isWrong(t, x)
			x = free
			x.Size = n
			isWrong(t, x)
		}
		for k := range pointerNames {
			for _, n := range slices.Concat(rightPointers[1:], wrongPointers) {
				x := free
				*pointer(&x, k) = n
				isWrong(t, x)
			}
		}
	}
}

// P10.1: Links of files are from 1 to 255, those of directories 1.
func TestLinks(t *testing.T) {
	for _, n := range []int{-256, -255, -1, 0, 256, 257, 511, 1<<16 + 1, 1<<32 + 1, math.MinInt, math.MinInt + 1, math.MaxInt} {
		isWrong(t, api.Node{Kind: 1, Links: n})
		isWrong(t, api.Node{Kind: 2, Links: n})
	}
	for n := 1; n <= 255; n++ {
		isRight(t, api.Node{Kind: 1, Links: n, Size: 5})
		if n > 1 {
			isWrong(t, api.Node{Kind: 2, Links: n, Size: 32})
		}
	}
	isRight(t, api.Node{Kind: 2, Links: 1})
}

// P10.1: each Size from below 0 to above MaxSize; that of a directory is a multiple of EntrySize.
func TestSize(t *testing.T) {
	sizes := []int{largest + 32, 1<<16 + 32, 1<<32 - 32, 1 << 32, 1<<32 + 32, -32, -64, math.MinInt, math.MinInt + 32, math.MaxInt, math.MaxInt - 31}
	for n := -70; n < largest+200; n++ {
		sizes = append(sizes, n)
	}
	for _, n := range sizes {
		x := api.Node{Kind: 1, Links: 1, Size: n}
		y := api.Node{Kind: 2, Links: 1, Size: n}
		if n < 0 || n > largest {
			isWrong(t, x)
			isWrong(t, y)
			continue
		}
		isRight(t, x)
		if n%32 == 0 {
			isRight(t, y)
		} else {
			isWrong(t, y)
		}
	}
}

// P10.1: what is neither free, nor a file, nor a directory is no node, whatever else it has.
func TestKind(t *testing.T) {
	for _, kind := range []int{-1, -2, 3, 4, 5, 127, 128, 254, 255, 256, 257, 258, 1<<16 + 1, 1<<32 + 1, 1<<32 + 2, 1 << 32, math.MinInt, math.MinInt + 1, math.MaxInt} {
		for _, x := range []api.Node{{}, {Links: 1}, file(), dir()} {
			x.Kind = kind
			isWrong(t, x)
		}
	}
	for kind := 3; kind < 256; kind++ {
		for _, x := range []api.Node{{}, {Links: 1}, file(), dir()} {
			x.Kind = kind
			isNone(t, "Kind", bytesOf(x))
		}
	}
}

// P10.1: bytes whose numbers are not sound.
func TestGetWrong(t *testing.T) {
	for _, n := range []int{last + 1, 1<<31 - 1, 1 << 31, 1<<31 + 7, 1<<32 - 1} {
		for _, x := range []api.Node{{}, file(), dir()} {
			y := x
			y.Gen = n
			isNone(t, "Gen", bytesOf(y))
			y = x
			y.Change = n
			isNone(t, "Change", bytesOf(y))
		}
	}
	for _, n := range []int{largest + 1, largest + 32, 1<<16 + 32, 1 << 24, 1 << 31, 1<<31 + 32, 1<<32 - 32, 1<<32 - 1} {
		isNone(t, "Size of a file", bytesOf(api.Node{Kind: 1, Links: 1, Size: n}))
		isNone(t, "Size of a directory", bytesOf(api.Node{Kind: 2, Links: 1, Size: n}))
		isNone(t, "Size of a free node", bytesOf(api.Node{Size: n}))
	}
	for _, x := range []api.Node{
		{Links: 1}, {Size: 1}, {Size: 32}, {One: 50}, {Two: 50}, {Direct: [4]int{50}}, {Direct: [4]int{0, 0, 0, 50}},
		{Kind: 1}, {Kind: 2}, {Kind: 2, Links: 2}, {Kind: 2, Links: 255}, {Kind: 2, Links: 1, Size: 5}, {Kind: 2, Links: 1, Size: 33},
		{Kind: 1, Links: 1, One: 42}, {Kind: 1, Links: 1, Two: 1024}, {Kind: 2, Links: 1, Direct: [4]int{0, 1}},
	} {
		isNone(t, "not sound", bytesOf(x))
		isWrong(t, x)
	}
}

// P10.1: the six last bytes are 0, in each bit, whatever the node is.
func TestGetTail(t *testing.T) {
	for _, x := range []api.Node{{}, {Gen: 7}, file(), dir()} {
		for bit := range 6 * 8 {
			b := bytesOf(x)
			b[26+bit/8] |= 1 << (bit % 8)
			isNone(t, "a last byte", b)
		}
		b := bytesOf(x)
		copy(b[26:], "\xff\xff\xff\xff\xff\xff")
		isNone(t, "last bytes", b)
	}
}

// P10.1: Get looks at no other place, and Put changes none, though no nodes are there.
func TestPlaces(t *testing.T) {
	b := bytes.Repeat([]byte{255}, length)
	list := []api.Node{file(), dir(), {Gen: 4, Change: 5}, {Kind: 1, Links: 1, Size: 1}}
	for i := range places {
		if x, e := Get(b, i); x != (api.Node{}) || e != api.ErrForm {
			t.Errorf("Get(%d) ahead of all: %v, %d", i, x, e)
		}
	}
	for i, x := range list {
		var e api.Errno
		if b, e = Put(b, i, x); e != api.OK || len(b) != length {
			t.Fatalf("Put(%d): %v, %d", i, b, e)
		}
		for k, want := range list {
			wrong := api.OK
			if k > i {
				want, wrong = api.Node{}, api.ErrForm
			}
			if y, e := Get(b, k); y != want || e != wrong {
				t.Errorf("Get(%d) behind Put(%d): %v, %d", k, i, y, e)
			}
		}
	}
	// A node that comes takes all bytes of the one that was there.
	for i := range places {
		if c, e := Put(bytes.Repeat([]byte{255}, length), i, api.Node{}); e != api.OK || !bytes.Equal(c[size*i:size*i+size], make([]byte, size)) {
			t.Errorf("Put(%d) of a free node: %v, %d", i, c, e)
		}
	}
}

// isArg: Get and Put tell just that.
func isArg(t *testing.T, b []byte, i int) {
	t.Helper()
	if x, e := Get(b, i); x != (api.Node{}) || e != api.ErrArg {
		t.Errorf("Get(%d bytes, %d): %v, %d", len(b), i, x, e)
	}
	for _, x := range []api.Node{{}, file(), {Kind: 3}, {Gen: -1}} {
		if c, e := Put(b, i, x); len(c) != 0 || e != api.ErrArg {
			t.Errorf("Put(%d bytes, %d, %v): %v, %d", len(b), i, x, c, e)
		}
	}
}

// P10.1, R2: another length, or a place that there is not, is told first, whatever the node is.
func TestArg(t *testing.T) {
	wrongPlaces := []int{-1, -2, -4, 4, 5, 31, 32, 1 << 8, 1 << 16, 1 << 32, 1<<32 + 1, 1 << 59, 1<<59 + 1, 1 << 60, math.MinInt, math.MinInt + 1, math.MaxInt}
	for _, b := range [][]byte{make([]byte, length), noise(), bytes.Repeat([]byte{255}, length)} {
		for _, i := range wrongPlaces {
			isArg(t, b, i)
		}
	}
	for n := range 2*length + 1 {
		if n == length {
			continue
		}
		for _, i := range append([]int{0, 1, 2, 3}, wrongPlaces...) {
			isArg(t, make([]byte, n), i)
		}
	}
	isArg(t, nil, 0)
	isArg(t, make([]byte, 1<<20), 3)
	// Its room would do, its length does not.
	isArg(t, make([]byte, length-1, length), 0)
	isArg(t, make([]byte, 0, length), 0)
}

// P10.1: bytes of any kind: what is a node says just that, and nothing else is one.
func TestGetAny(t *testing.T) {
	r := rand.New(rand.NewSource(101))
	for range 4000 {
		part := make([]byte, size)
		r.Read(part)
		part[0] = byte(3 + r.Intn(253))
		isNone(t, "any bytes", part)
		x := api.Node{Kind: r.Intn(3), Gen: r.Intn(last + 1), Change: r.Intn(last + 1)}
		if x.Kind != 0 {
			x.Links, x.Size = 1, r.Intn(largest/32+1)*32
			for k := range pointerNames {
				*pointer(&x, k) = firstData + r.Intn(lastData-firstData+1)
			}
		}
		if x.Kind == 1 {
			x.Links, x.Size = 1+r.Intn(255), r.Intn(largest+1)
		}
		isRight(t, x)
	}
}

// P10.1: Stat tells what is there, of nodes that are not sound, too.
func TestStat(t *testing.T) {
	numbers := []int{0, 1, 7, 31, 32, -1, 1 << 32, math.MinInt, math.MaxInt}
	for _, n := range numbers {
		for _, m := range numbers {
			x := api.Node{Kind: m, Links: n, Gen: m, Size: n, Change: m, Direct: [4]int{n, m, n, m}, One: n, Two: m}
			want := api.Stat{Handle: api.Handle{Node: n, Gen: m}, Kind: m, Links: n, Size: n, Change: m}
			if s := Stat(n, x); s != want {
				t.Errorf("Stat(%d, %v): %v", n, x, s)
			}
		}
	}
	want := api.Stat{Handle: api.Handle{Node: 7, Gen: 5}, Kind: 1, Links: 2, Size: 300, Change: 6}
	if s := Stat(7, file()); s != want {
		t.Errorf("%v", s)
	}
	if s := Stat(0, api.Node{}); s != (api.Stat{}) {
		t.Errorf("%v", s)
	}
}

// R4: what is handed in is not changed, its spare room included, and what is answered is new memory.
func TestMemory(t *testing.T) {
	x := file()
	for i := range places {
		room := append(with(noise(), i, bytesOf(dir())), "spare room, so much that a node would lie in it"...)
		was := bytes.Clone(room)
		b := room[:length]
		first, e := Put(b, i, x)
		if e != api.OK || !bytes.Equal(room, was) {
			t.Errorf("Put(%d) changes what it is given", i)
		}
		all := first[:cap(first)]
		for k := range all {
			all[k] ^= 0xA5
		}
		if !bytes.Equal(room, was) {
			t.Errorf("what Put(%d) answers shares memory with what it was given", i)
		}
		if second, e := Put(b, i, x); e != api.OK || !bytes.Equal(second, with(b, i, bytesOf(x))) {
			t.Errorf("Put(%d) behind a change of its answer: %v, %d", i, second, e)
		}
		Put(b, i, api.Node{Kind: 3})
		Put(b, places, x)
		Get(b, i)
		Get(b, places)
		if !bytes.Equal(room, was) || x != file() {
			t.Errorf("what is handed in at %d is changed", i)
		}
	}
}
