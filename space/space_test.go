package space

import (
	"bytes"
	"encoding/binary"
	"math"
	"math/rand"
	"slices"
	"testing"

	"copyhold/api"
	"copyhold/drive"
	"copyhold/store"
)

// The document's own bounds, not the program's.
const (
	size     = 128
	logSize  = 24
	atMarks  = 34
	atData   = 43
	direct   = 4
	fan      = 8
	maxSize  = 9728
	manyNode = 32
	root     = 1
	last     = 1073741824
)

// is: that is what was answered.
func is(t *testing.T, what string, got, want api.Errno) {
	t.Helper()
	if got != want {
		t.Errorf("%s: %d, want %d", what, got, want)
	}
}

// must: that went well.
func must(t *testing.T, what string, e api.Errno) {
	t.Helper()
	if e != api.OK {
		t.Fatalf("%s: %d", what, e)
	}
}

// fresh: a store on a new drive, and that drive.
func fresh(t *testing.T, sectors int) (*store.Store, *drive.Drive) {
	t.Helper()
	d, e := drive.New(sectors)
	must(t, "New", e)
	must(t, "Make", store.Make(d))
	s, e := store.Mount(d)
	must(t, "Mount", e)
	return s, d
}

// born: a new file, which lasts.
func born(t *testing.T, s *store.Store) int {
	t.Helper()
	n, e := s.New(api.File)
	must(t, "New", e)
	must(t, "Commit", s.Commit())
	return n
}

// nodeOf: a node, as it will be.
func nodeOf(t *testing.T, s *store.Store, n int) api.Node {
	t.Helper()
	x, e := s.Node(n)
	must(t, "Node", e)
	return x
}

// whole: all bytes of a node.
func whole(t *testing.T, s *store.Store, n int) string {
	t.Helper()
	b, e := Read(s, n, 0, maxSize)
	must(t, "Read", e)
	return string(b)
}

// lies: a file has these bytes, and so many sectors.
func lies(t *testing.T, what string, s *store.Store, n int, want string, sectors int) {
	t.Helper()
	if got := whole(t, s, n); got != want {
		t.Errorf("%s: it has %d bytes %q, want %d %q", what, len(got), got, len(want), want)
	}
	if x := nodeOf(t, s, n); x.Size != len(want) {
		t.Errorf("%s: Size %d, want %d", what, x.Size, len(want))
	}
	if list := sectorsOf(t, s, n); len(list) != sectors {
		t.Errorf("%s: sectors %v, want %d", what, list, sectors)
	}
}

// sectorsOf: the numbers of all sectors of a node.
func sectorsOf(t *testing.T, s *store.Store, n int) []int {
	t.Helper()
	list, e := Sectors(s, n)
	must(t, "Sectors", e)
	return list
}

// raw: a sector, as it will be.
func raw(t *testing.T, s *store.Store, n int) []byte {
	t.Helper()
	b, e := s.Get(n)
	must(t, "Get", e)
	return b
}

// numbers: the pointers of a sector by chapter 11's words, or none of no sector.
func numbers(t *testing.T, s *store.Store, n int) []int {
	t.Helper()
	list := make([]int, fan)
	if n == 0 {
		return list
	}
	b := raw(t, s, n)
	for i := range list {
		list[i] = int(binary.LittleEndian.Uint16(b[2*i:]))
	}
	if slices.Max(b[2*fan:]) != 0 {
		t.Errorf("sector %d has something behind its pointers", n)
	}
	return list
}

// pointing: a sector of pointers by chapter 11's words.
func pointing(list ...int) []byte {
	b := make([]byte, size)
	for i, n := range list {
		binary.LittleEndian.PutUint16(b[2*i:], uint16(n))
	}
	return b
}

// laid: where the blocks of a node lie, 0 for those that it does not have, and its sectors of pointers, looked for without the package.
func laid(t *testing.T, s *store.Store, n int) (blocks, pointers []int) {
	t.Helper()
	x := nodeOf(t, s, n)
	blocks = append(blocks, x.Direct[:]...)
	blocks = append(blocks, numbers(t, s, x.One)...)
	pointers = append(pointers, x.One, x.Two)
	for _, p := range numbers(t, s, x.Two) {
		blocks = append(blocks, numbers(t, s, p)...)
		pointers = append(pointers, p)
	}
	return blocks, slices.DeleteFunc(pointers, func(p int) bool { return p == 0 })
}

// sound: what chapter 16 asks of these nodes, if no others have bytes.
func sound(t *testing.T, what string, s *store.Store, sectors int, nodes ...int) {
	t.Helper()
	var all []int
	for _, n := range nodes {
		x := nodeOf(t, s, n)
		blocks, pointers := laid(t, s, n)
		for _, p := range pointers {
			if slices.Max(numbers(t, s, p)) == 0 {
				t.Errorf("%s: sector %d of node %d has no pointer", what, p, n)
			}
		}
		list := slices.Clone(pointers)
		for i, at := range blocks {
			if at == 0 {
				continue
			}
			list = append(list, at)
			switch end := x.Size - i*size; {
			case end <= 0:
				t.Errorf("%s: block %d of node %d is behind its end, %d", what, i, n, x.Size)
			case end < size && slices.Max(raw(t, s, at)[end:]) != 0:
				t.Errorf("%s: node %d has bytes behind its end, %d", what, n, x.Size)
			}
		}
		slices.Sort(list)
		if got := sectorsOf(t, s, n); !slices.Equal(got, list) {
			t.Errorf("%s: Sectors of %d: %v, want %v", what, n, got, list)
		}
		all = append(all, list...)
	}
	taken := raw(t, s, atMarks)
	for n := atData; n < sectors; n++ {
		owners := 0
		for _, m := range all {
			if m == n {
				owners++
			}
		}
		if int(taken[n/8]>>(n%8)&1) != owners {
			t.Errorf("%s: sector %d belongs to %d, its mark is %d", what, n, owners, taken[n/8]>>(n%8)&1)
		}
	}
}

// noughts: so many bytes 0.
func noughts(n int) string {
	return string(make([]byte, n))
}

// letters: so many bytes, none of them 0, no block like another.
func letters(n, seed int) string {
	b := make([]byte, n)
	for i := range b {
		b[i] = byte(1 + (i*7+i/size*31+seed)%255)
	}
	return string(b)
}

// long: a file of many bytes without a gap, which lasts.
func long(t *testing.T, s *store.Store, n int, text string) {
	t.Helper()
	for at := 0; at < len(text); at += 4 * size {
		must(t, "Write", Write(s, n, at, []byte(text[at:min(at+4*size, len(text))])))
		must(t, "Commit", s.Commit())
	}
}

// all: what each of the calls answers of a store and a node, with arguments that nothing else is wrong with.
func all(s *store.Store, n int) map[string]api.Errno {
	_, read := Read(s, n, 0, 10)
	_, list := Sectors(s, n)
	return map[string]api.Errno{
		"Read": read, "Write": Write(s, n, 0, []byte("x")), "Write of nothing": Write(s, n, 0, nil), "Trunc": Trunc(s, n, 0), "Sectors": list,
	}
}

func TestNobody(t *testing.T) {
	s, _ := fresh(t, 64)
	n := born(t, s)
	for _, c := range []struct {
		what string
		s    *store.Store
		n    int
		want api.Errno
	}{
		{"a nil Store", nil, n, api.ErrArg},
		{"a nil Store and no node", nil, -1, api.ErrArg},
		{"an empty Store", &store.Store{}, n, api.ErrArg},
		{"node -1", s, -1, api.ErrRange},
		{"node 32", s, manyNode, api.ErrRange},
		{"the greatest number", s, math.MaxInt, api.ErrRange},
		{"the least number", s, math.MinInt, api.ErrRange},
		{"node 0", s, 0, api.ErrNone},
		{"a free node", s, n + 1, api.ErrNone},
		{"the last node", s, manyNode - 1, api.ErrNone},
	} {
		for what, got := range all(c.s, c.n) {
			is(t, what+" of "+c.what, got, c.want)
		}
	}
	if b, e := Read(nil, n, -1, -1); len(b) != 0 || e != api.ErrArg {
		t.Error("Read of nobody:", b, e)
	}
	if s.Free() != 21 {
		t.Error("something was taken:", s.Free())
	}
}

func TestWhichErrorFirst(t *testing.T) {
	s, _ := fresh(t, 64)
	much := make([]byte, maxSize+1)
	for _, n := range []int{0, 5} {
		_, e := Read(s, n, -1, maxSize+1)
		is(t, "Read of a free node, wrongly", e, api.ErrNone)
		is(t, "Write of a free node, wrongly", Write(s, n, -1, much), api.ErrNone)
		is(t, "Trunc of a free node, wrongly", Trunc(s, n, -1), api.ErrNone)
	}
	is(t, "Write at -1 of too much", Write(s, root, -1, much), api.ErrRange)
	is(t, "Write at -1 of nothing", Write(s, root, -1, nil), api.ErrRange)
	is(t, "Write of too much, ahead of too few sectors", Write(s, root, 0, much), api.ErrLarge)
}

func TestAStoreIsDown(t *testing.T) {
	for _, noted := range []bool{false, true} {
		s, d := fresh(t, 64)
		n := born(t, s)
		must(t, "Write", Write(s, n, 0, []byte("abc")))
		must(t, "Commit", s.Commit())
		d.Fuse(0)
		d.Put(api.Write{At: 60, Data: make([]byte, size)})
		if noted {
			s.Free()
			s.Get(0)
		}
		for what, got := range all(s, n) {
			is(t, what, got, api.ErrDown)
		}
		if _, e := Read(s, n, -1, -1); e != api.ErrDown {
			t.Error("Read:", e)
		}
		is(t, "Write", Write(s, n, -1, nil), api.ErrDown)
		is(t, "Trunc", Trunc(s, n, -1), api.ErrDown)
		is(t, "a free node", Trunc(s, 9, 0), api.ErrDown)
	}
}

func TestRead(t *testing.T) {
	s, _ := fresh(t, 200)
	n := born(t, s)
	text := letters(1000, 3)
	long(t, s, n, text)
	for _, c := range []struct{ at, size, from, to int }{
		{0, 0, 0, 0}, {0, 1, 0, 1}, {0, 1000, 0, 1000}, {0, maxSize, 0, 1000}, {127, 2, 127, 129}, {128, 128, 128, 256},
		{500, 100, 500, 600}, {511, 1, 511, 512}, {512, 1, 512, 513}, {999, 1, 999, 1000}, {999, 2, 999, 1000}, {990, maxSize, 990, 1000},
		{1000, 1, 0, 0}, {1000, 0, 0, 0}, {1001, 5, 0, 0}, {maxSize, 1, 0, 0}, {maxSize + 1, maxSize, 0, 0},
		{math.MaxInt, 0, 0, 0}, {math.MaxInt, maxSize, 0, 0}, {math.MaxInt - 5, 10, 0, 0},
	} {
		b, e := Read(s, n, c.at, c.size)
		if string(b) != text[c.from:c.to] || e != api.OK {
			t.Errorf("Read from %d %d bytes: %d bytes, %d", c.at, c.size, len(b), e)
		}
	}
	for _, c := range [][2]int{{-1, 1}, {0, -1}, {-1, -1}, {0, maxSize + 1}, {2000, maxSize + 1}, {2000, -1}, {0, math.MaxInt}, {0, math.MinInt}, {math.MinInt, 0}, {math.MaxInt, math.MaxInt}} {
		if b, e := Read(s, n, c[0], c[1]); len(b) != 0 || e != api.ErrRange {
			t.Errorf("Read from %d %d bytes: %v, %d", c[0], c[1], b, e)
		}
	}
	if b, e := Read(s, root, 0, 5); len(b) != 0 || e != api.OK {
		t.Error("Read of a directory with nothing:", b, e)
	}
}

func TestBytesThatWereNeverWritten(t *testing.T) {
	s, _ := fresh(t, 200)
	n := born(t, s)
	must(t, "Write", Write(s, n, maxSize-1, []byte("!")))
	lies(t, "its last byte", s, n, noughts(maxSize-1)+"!", 3)
	if b, e := Read(s, n, 600, 3); string(b) != noughts(3) || e != api.OK {
		t.Error(b, e)
	}
	free := s.Free()
	x := nodeOf(t, s, n)
	m := born(t, s)
	x.Direct, x.One, x.Two, x.Size = [direct]int{}, 0, 0, 700
	must(t, "SetNode", s.SetNode(m, x))
	lies(t, "no sector at all", s, m, noughts(700), 0)
	if s.Free() != free {
		t.Error("Read took something")
	}
}

func TestWriteTakesWhatItNeeds(t *testing.T) {
	for _, c := range []struct{ at, size, took int }{
		{0, 1, 1}, {0, size, 1}, {0, size + 1, 2}, {127, 2, 2}, {128, 1, 1}, {511, 1, 1},
		{511, 2, 3}, {512, 1, 2}, {1535, 1, 2}, {1535, 2, 5}, {1536, 1, 3}, {2559, 2, 5}, {2560, 1, 3}, {9727, 1, 3},
		{0, 1536, 13}, {1536, 1024, 10}, {384, 256, 3},
	} {
		s, _ := fresh(t, 64)
		n := born(t, s)
		free, was := s.Free(), nodeOf(t, s, n)
		text := letters(c.size, 1)
		must(t, "Write", Write(s, n, c.at, []byte(text)))
		lies(t, "Write", s, n, noughts(c.at)+text, c.took)
		if free-s.Free() != c.took {
			t.Errorf("Write at %d of %d: %d sectors, want %d", c.at, c.size, free-s.Free(), c.took)
		}
		x := nodeOf(t, s, n)
		if x.Kind != was.Kind || x.Links != was.Links || x.Gen != was.Gen || x.Change != was.Change+1 {
			t.Errorf("Write at %d: %v, was %v", c.at, x, was)
		}
		sound(t, "Write", s, 64, n)
		// Again, where all of it is there: nothing is taken, and it has no more bytes.
		must(t, "Commit", s.Commit())
		other := letters(c.size, 2)
		must(t, "Write", Write(s, n, c.at, []byte(other)))
		lies(t, "Write once more", s, n, noughts(c.at)+other, c.took)
		if free-s.Free() != c.took || nodeOf(t, s, n).Change != was.Change+2 {
			t.Errorf("Write at %d once more: %d sectors", c.at, free-s.Free())
		}
	}
}

func TestWriteWithin(t *testing.T) {
	s, _ := fresh(t, 200)
	n := born(t, s)
	text := letters(3000, 5)
	long(t, s, n, text)
	count := len(sectorsOf(t, s, n))
	for _, c := range []struct{ at, size int }{{0, 1}, {5, 10}, {120, 20}, {500, 300}, {1500, 100}, {2990, 10}, {2990, 40}, {3030, 42}} {
		piece := letters(c.size, c.at)
		must(t, "Write", Write(s, n, c.at, []byte(piece)))
		text = text[:c.at] + piece + text[min(c.at+c.size, len(text)):]
		lies(t, "Write", s, n, text, count)
		must(t, "Commit", s.Commit())
	}
	sound(t, "Write", s, 200, n)
}

func TestWriteOfNothing(t *testing.T) {
	s, _ := fresh(t, 64)
	n := born(t, s)
	must(t, "Write", Write(s, n, 0, []byte("abc")))
	was, free := nodeOf(t, s, n), s.Free()
	for _, at := range []int{0, 2, 3, 600, maxSize, maxSize + 1, math.MaxInt} {
		is(t, "Write of nothing", Write(s, n, at, nil), api.OK)
		is(t, "Write of an empty list", Write(s, n, at, []byte{}), api.OK)
	}
	if nodeOf(t, s, n) != was || s.Free() != free {
		t.Error("something changed:", nodeOf(t, s, n), s.Free())
	}
}

func TestWriteTooMuch(t *testing.T) {
	s, _ := fresh(t, 200)
	n := born(t, s)
	for _, c := range []struct{ at, size int }{
		{maxSize, 1}, {maxSize - 1, 2}, {0, maxSize + 1}, {1, maxSize}, {math.MaxInt, 1}, {math.MaxInt - 1, 2}, {math.MaxInt, maxSize + 1},
	} {
		is(t, "Write", Write(s, n, c.at, make([]byte, c.size)), api.ErrLarge)
	}
	for _, at := range []int{-1, -128, math.MinInt} {
		is(t, "Write", Write(s, n, at, []byte("x")), api.ErrRange)
	}
	s.Drop()
	lies(t, "behind errors", s, n, "", 0)
	must(t, "Write of the last bytes", Write(s, n, maxSize-2, []byte("xy")))
}

func TestWriteMoreThanACommitTakes(t *testing.T) {
	s, _ := fresh(t, 200)
	n := born(t, s)
	// With the map, the node's sector, and, from the fifth block on, One's and from the thirteenth on Two's pointers.
	is(t, "Write of 20 blocks", Write(s, n, 0, make([]byte, 20*size)), api.ErrLarge)
	s.Drop()
	is(t, "Write of 19 blocks", Write(s, n, 0, make([]byte, 19*size)), api.OK)
	s.Drop()
	long(t, s, n, letters(maxSize, 9))
	is(t, "Write of 24 blocks that are there", Write(s, n, 0, make([]byte, 24*size)), api.ErrLarge)
	s.Drop()
	is(t, "Write of 23 blocks that are there", Write(s, n, 40*size, make([]byte, 23*size)), api.OK)
	must(t, "Commit", s.Commit())
	sound(t, "Write", s, 200, n)
}

func TestTooFewSectors(t *testing.T) {
	for _, c := range []struct{ left, at, size int }{{0, 0, 1}, {1, 0, 129}, {1, 512, 1}, {2, 1536, 1}, {2, 500, 20}} {
		s, _ := fresh(t, 64)
		n, m := born(t, s), born(t, s)
		for s.Free() > c.left {
			must(t, "Take", second(s.Take()))
		}
		must(t, "Commit", s.Commit())
		is(t, "Write", Write(s, n, c.at, make([]byte, c.size)), api.ErrSpace)
		s.Drop()
		if s.Free() != c.left {
			t.Error("behind Drop there are", s.Free())
		}
		lies(t, "behind Drop", s, n, "", 0)
		must(t, "Trunc", Trunc(s, m, maxSize))
	}
	s, _ := fresh(t, 64)
	n := born(t, s)
	must(t, "Write", Write(s, n, 0, []byte("abc")))
	for s.Free() > 0 {
		must(t, "Take", second(s.Take()))
	}
	must(t, "Write where all is there", Write(s, n, 1, []byte("xyz")))
	lies(t, "Write where all is there", s, n, "axyz", 1)
	must(t, "Commit", s.Commit())
	is(t, "Write", Write(s, n, 130, []byte("x")), api.ErrSpace)
}

// second: an answer's error alone.
func second(_ int, e api.Errno) api.Errno { return e }

func TestTrunc(t *testing.T) {
	text := letters(maxSize, 4)
	for _, c := range []struct{ size, left int }{
		{0, 0}, {1, 1}, {127, 1}, {128, 1}, {129, 2}, {512, 4}, {513, 6}, {1535, 13}, {1536, 13}, {1537, 16},
		{2560, 23}, {2561, 25}, {9600, 85}, {9601, 86}, {9727, 86}, {9728, 86},
	} {
		s, _ := fresh(t, 200)
		n := born(t, s)
		long(t, s, n, text)
		free, was := s.Free(), nodeOf(t, s, n)
		must(t, "Trunc", Trunc(s, n, c.size))
		lies(t, "Trunc", s, n, text[:c.size], c.left)
		if s.Free()-free != 86-c.left {
			t.Errorf("Trunc to %d: %d are free, want %d", c.size, s.Free()-free, 86-c.left)
		}
		if x := nodeOf(t, s, n); x.Change != was.Change+1 || x.Gen != was.Gen || x.Links != was.Links || x.Kind != was.Kind {
			t.Errorf("Trunc to %d: %v, was %v", c.size, x, was)
		}
		sound(t, "Trunc", s, 200, n)
		must(t, "Commit", s.Commit())
		must(t, "Trunc to all", Trunc(s, n, maxSize))
		lies(t, "Trunc to all", s, n, text[:c.size]+noughts(maxSize-c.size), c.left)
		sound(t, "Trunc to all", s, 200, n)
	}
}

func TestTruncWrongly(t *testing.T) {
	s, _ := fresh(t, 64)
	n := born(t, s)
	must(t, "Write", Write(s, n, 0, []byte("abc")))
	for _, size := range []int{-1, maxSize + 1, math.MaxInt, math.MinInt} {
		is(t, "Trunc", Trunc(s, n, size), api.ErrRange)
	}
	lies(t, "behind errors", s, n, "abc", 1)
	was := nodeOf(t, s, n).Change
	must(t, "Trunc to the same size", Trunc(s, n, 3))
	lies(t, "Trunc to the same size", s, n, "abc", 1)
	if got := nodeOf(t, s, n).Change; got != was+1 {
		t.Errorf("Change %d, was %d", got, was)
	}
}

// What a Commit takes is soon full, so a sector that will be free is not put, and one whose bytes stay is not either.
func TestTruncPutsLittle(t *testing.T) {
	text := letters(maxSize, 4)
	for _, c := range []struct{ size, puts int }{
		{0, 2}, {512, 2}, {513, 4}, {1536, 2}, {1537, 5}, {2560, 3}, {maxSize, 1},
	} {
		s, _ := fresh(t, 200)
		n := born(t, s)
		long(t, s, n, text)
		for i := range logSize - c.puts {
			must(t, "Put", s.Put(199-i, make([]byte, size)))
		}
		must(t, "Trunc", Trunc(s, n, c.size))
		lies(t, "Trunc", s, n, text[:c.size], len(sectorsOf(t, s, n)))
		must(t, "Commit", s.Commit())
	}
}

func TestSectorsOnce(t *testing.T) {
	s, _ := fresh(t, 64)
	n := born(t, s)
	x := nodeOf(t, s, n)
	x.Direct, x.Size = [direct]int{50, 45, 50}, 300
	must(t, "SetNode", s.SetNode(n, x))
	if list := sectorsOf(t, s, n); !slices.Equal(list, []int{45, 50}) {
		t.Error("each number once:", list)
	}
}

func TestPointersToNone(t *testing.T) {
	s, _ := fresh(t, 200)
	n := born(t, s)
	// Block 4 behind One, 12 and 20 behind two of Two's.
	for i, at := range []int{512, 1536, 2560} {
		must(t, "Write", Write(s, n, at, []byte("x")))
		must(t, "Commit", s.Commit())
		if got := len(sectorsOf(t, s, n)); got != []int{2, 5, 7}[i] {
			t.Errorf("it has %d sectors", got)
		}
	}
	for _, c := range []struct{ size, left int }{{2560, 5}, {1537, 5}, {1536, 2}, {513, 2}, {512, 0}} {
		must(t, "Trunc", Trunc(s, n, c.size))
		if list := sectorsOf(t, s, n); len(list) != c.left {
			t.Errorf("Trunc to %d: %v, want %d", c.size, list, c.left)
		}
		sound(t, "Trunc", s, 200, n)
		must(t, "Commit", s.Commit())
	}
	if s.Free() != 157 {
		t.Error("free:", s.Free())
	}
}

func TestWhatWasCutIsGone(t *testing.T) {
	s, _ := fresh(t, 200)
	n := born(t, s)
	text := letters(700, 8)
	long(t, s, n, text)
	must(t, "Trunc", Trunc(s, n, 10))
	must(t, "Write", Write(s, n, 20, []byte("x")))
	lies(t, "Write behind a gap", s, n, text[:10]+noughts(10)+"x", 1)
	must(t, "Write", Write(s, n, 600, []byte("y")))
	lies(t, "Write far behind", s, n, text[:10]+noughts(10)+"x"+noughts(579)+"y", 3)
	sound(t, "Write", s, 200, n)
}

// A node may have been set to fewer bytes by its store, with what it had behind its end left there.
func TestGapsAreNoughtsWhateverLayThere(t *testing.T) {
	for _, grow := range []struct {
		what string
		do   func(s *store.Store, n int) api.Errno
		tail string
	}{
		{"Write", func(s *store.Store, n int) api.Errno { return Write(s, n, 300, []byte("x")) }, "x"},
		{"Trunc", func(s *store.Store, n int) api.Errno { return Trunc(s, n, 300) }, ""},
	} {
		s, _ := fresh(t, 64)
		n := born(t, s)
		long(t, s, n, letters(384, 2))
		x := nodeOf(t, s, n)
		x.Size = 100
		must(t, "SetNode", s.SetNode(n, x))
		must(t, grow.what, grow.do(s, n))
		lies(t, grow.what, s, n, letters(384, 2)[:100]+noughts(200)+grow.tail, 3)
	}
}

func TestChangeHasAnEnd(t *testing.T) {
	for _, do := range []func(s *store.Store, n int) api.Errno{
		func(s *store.Store, n int) api.Errno { return Write(s, n, 0, []byte("x")) },
		func(s *store.Store, n int) api.Errno { return Trunc(s, n, 0) },
	} {
		s, _ := fresh(t, 64)
		n := born(t, s)
		x := nodeOf(t, s, n)
		x.Change = last - 1
		must(t, "SetNode", s.SetNode(n, x))
		for range 2 {
			must(t, "a change", do(s, n))
			if got := nodeOf(t, s, n).Change; got != last {
				t.Errorf("Change %d, want %d", got, last)
			}
		}
	}
}

func TestSectors(t *testing.T) {
	s, _ := fresh(t, 200)
	n, m := born(t, s), born(t, s)
	if list := sectorsOf(t, s, n); len(list) != 0 {
		t.Error("of a new file:", list)
	}
	// Taken in this order: blocks 13, 0 and 5, each with its pointers, and one of the other file between.
	for _, c := range []struct{ n, at int }{{n, 13 * size}, {m, 0}, {n, 0}, {n, 5 * size}} {
		must(t, "Write", Write(s, c.n, c.at, []byte("x")))
	}
	if list := sectorsOf(t, s, n); !slices.Equal(list, []int{43, 44, 45, 47, 48, 49}) {
		t.Error("of the first file:", list)
	}
	if list := sectorsOf(t, s, m); !slices.Equal(list, []int{46}) {
		t.Error("of the second file:", list)
	}
	must(t, "Give", Trunc(s, m, 0))
	must(t, "Write", Write(s, n, size, []byte("x")))
	if list := sectorsOf(t, s, n); !slices.Equal(list, []int{43, 44, 45, 46, 47, 48, 49}) {
		t.Error("of the first file:", list)
	}
	list := sectorsOf(t, s, n)
	list = append(list[:1], 0, 0)
	if again := sectorsOf(t, s, n); list[0] != 43 || again[1] != 44 {
		t.Error("two answers share memory")
	}
}

func TestBytesLieWhereTheTreeSays(t *testing.T) {
	s, _ := fresh(t, 200)
	n := born(t, s)
	text := letters(maxSize, 6)
	long(t, s, n, text)
	blocks, pointers := laid(t, s, n)
	for i, at := range blocks {
		if string(raw(t, s, at)) != text[i*size:(i+1)*size] {
			t.Errorf("block %d is not in sector %d", i, at)
		}
	}
	if len(blocks) != 76 || len(pointers) != 10 {
		t.Error(len(blocks), len(pointers))
	}
}

func TestADirectoryHasBytes(t *testing.T) {
	s, _ := fresh(t, 64)
	must(t, "Write", Write(s, root, 0, []byte(letters(32, 1))))
	lies(t, "Root", s, root, letters(32, 1), 1)
	is(t, "Write of no whole entry", Write(s, root, 32, []byte("x")), api.ErrForm)
	s.Drop()
	is(t, "Trunc to no whole entry", Trunc(s, root, 31), api.ErrForm)
	s.Drop()
	must(t, "Trunc", Trunc(s, root, 64))
	lies(t, "Root", s, root, noughts(64), 0)
}

func TestPointersThatAreNone(t *testing.T) {
	bad := make([]byte, size)
	bad[0] = 42
	for _, c := range []struct {
		what  string
		one   []byte
		want  api.Errno
		touch int
	}{
		{"a number below those of files", bad, api.ErrForm, 512},
		{"something behind", append(make([]byte, size-1), 1), api.ErrForm, 512},
		{"a sector that the drive does not have", pointing(100), api.ErrRange, 512},
	} {
		s, _ := fresh(t, 64)
		n := born(t, s)
		must(t, "Write", Write(s, n, c.touch, []byte("xy")))
		must(t, "Put", s.Put(nodeOf(t, s, n).One, c.one))
		must(t, "Commit", s.Commit())
		b, e := Read(s, n, 0, maxSize)
		if is(t, "Read: "+c.what, e, c.want); len(b) != 0 {
			t.Error("beside an error:", b)
		}
		is(t, "Write: "+c.what, Write(s, n, c.touch, []byte("x")), c.want)
		s.Drop()
		is(t, "Trunc: "+c.what, Trunc(s, n, 0), c.want)
		s.Drop()
		if must(t, "Write ahead of it", Write(s, n, 0, []byte("x"))); c.want == api.ErrForm {
			list, e := Sectors(s, n)
			if is(t, "Sectors: "+c.what, e, c.want); len(list) != 0 {
				t.Error("beside an error:", list)
			}
		}
	}
	s, _ := fresh(t, 64)
	n := born(t, s)
	at := nodeOf(t, s, n)
	at.One, at.Two, at.Size = 1000, 1001, maxSize
	must(t, "SetNode", s.SetNode(n, at))
	for what, got := range map[string]api.Errno{"Write": Write(s, n, 600, []byte("x")), "Trunc": Trunc(s, n, 0), "a block": second(0, Write(s, n, 2000, []byte("x")))} {
		is(t, what+" by pointers off the drive", got, api.ErrRange)
	}
	_, e := Sectors(s, n)
	is(t, "Sectors by pointers off the drive", e, api.ErrRange)
	x := nodeOf(t, s, n)
	x.One, x.Two, x.Direct[0] = 0, 0, 64
	must(t, "SetNode", s.SetNode(n, x))
	is(t, "Write of a whole block off the drive", Write(s, n, 0, make([]byte, size)), api.ErrRange)
	is(t, "Trunc of a block off the drive", Trunc(s, n, 0), api.ErrRange)
	is(t, "Trunc within a block off the drive", Trunc(s, n, 5), api.ErrRange)
}

func TestMemory(t *testing.T) {
	s, _ := fresh(t, 64)
	n := born(t, s)
	room := []byte(letters(300, 1))
	data := room[:200]
	must(t, "Write", Write(s, n, 50, data))
	if string(room) != letters(300, 1) {
		t.Error("Write changed what it was given")
	}
	clear(room)
	want := noughts(50) + letters(200, 1)
	lies(t, "Write", s, n, want, 2)
	a, _ := Read(s, n, 0, maxSize)
	b, _ := Read(s, n, 0, maxSize)
	clear(a[:cap(a)])
	if string(b) != want {
		t.Error("two answers share memory")
	}
	lies(t, "behind a change of an answer", s, n, want, 2)
	c, _ := Read(s, n, 0, 128)
	d := append(c, "zzz"...)
	lies(t, "behind a longer answer", s, n, want, 2)
	if len(d) != 131 {
		t.Error(len(d))
	}
}

func TestDropAndCommit(t *testing.T) {
	s, d := fresh(t, 64)
	n := born(t, s)
	must(t, "Write", Write(s, n, 0, []byte("abc")))
	must(t, "Commit", s.Commit())
	must(t, "Write", Write(s, n, 1, []byte(letters(300, 1))))
	s.Drop()
	lies(t, "Drop", s, n, "abc", 1)
	must(t, "Trunc", Trunc(s, n, 0))
	s.Drop()
	lies(t, "Drop", s, n, "abc", 1)
	if s.Free() != 20 {
		t.Error("free:", s.Free())
	}
	must(t, "Write", Write(s, n, 1, []byte("xyz")))
	must(t, "Commit", s.Commit())
	d.Restart()
	s, e := store.Mount(d)
	must(t, "Mount", e)
	lies(t, "behind a Restart", s, n, "axyz", 1)
}

func TestAllOrNoneBehindALossOfPower(t *testing.T) {
	before, piece := letters(1600, 1), letters(256, 2)
	for _, do := range []struct {
		what  string
		after string
		call  func(s *store.Store, n int) api.Errno
	}{
		{"Write", before[:1590] + piece, func(s *store.Store, n int) api.Errno { return Write(s, n, 1590, []byte(piece)) }},
		{"Trunc", before[:130], func(s *store.Store, n int) api.Errno { return Trunc(s, n, 130) }},
	} {
		seen := [2]int{}
		for fuse := 0; ; fuse++ {
			s, d := fresh(t, 64)
			n := born(t, s)
			long(t, s, n, before)
			d.Fuse(fuse)
			must(t, do.what, do.call(s, n))
			e := s.Commit()
			d.Restart()
			s, f := store.Mount(d)
			must(t, "Mount", f)
			switch whole(t, s, n) {
			case before:
				seen[0]++
				if e == api.OK {
					t.Errorf("%s, fuse %d: answered, and gone", do.what, fuse)
				}
			case do.after:
				seen[1]++
			default:
				t.Errorf("%s, fuse %d: neither what was nor what would be", do.what, fuse)
			}
			sound(t, do.what, s, 64, n)
			if e == api.OK {
				break
			}
		}
		if seen[0] == 0 || seen[1] == 0 {
			t.Error(do.what, seen)
		}
	}
}

// model: what a file should be.
type model struct {
	data   []byte
	blocks map[int]bool
	change int
}

// write: bytes come, and the blocks that they touch.
func (m *model) write(at int, data []byte) {
	if grown := at + len(data); grown > len(m.data) {
		m.data = append(m.data, make([]byte, grown-len(m.data))...)
	}
	copy(m.data[at:], data)
	for i := range data {
		m.blocks[(at+i)/size] = true
	}
	m.change++
}

// trunc: bytes go, and the blocks behind the end.
func (m *model) trunc(n int) {
	kept := make([]byte, n)
	copy(kept, m.data)
	m.data = kept
	for b := range m.blocks {
		if b*size >= n {
			delete(m.blocks, b)
		}
	}
	m.change++
}

// sectors: how many it should have, with its pointers.
func (m *model) sectors() int {
	own := map[int]bool{}
	for b := range m.blocks {
		switch {
		case b >= direct+fan:
			own[-2], own[-3-(b-direct-fan)/fan] = true, true
		case b >= direct:
			own[-1] = true
		}
	}
	return len(m.blocks) + len(own)
}

// copied: the same again.
func (m *model) copied() *model {
	c := &model{data: bytes.Clone(m.data), blocks: map[int]bool{}, change: m.change}
	for b := range m.blocks {
		c.blocks[b] = true
	}
	return c
}

func TestAgainstAModel(t *testing.T) {
	for seed := range int64(6) {
		r := rand.New(rand.NewSource(seed))
		sectors := []int{64, 100, 250}[seed%3]
		s, _ := fresh(t, sectors)
		var nodes []int
		var now, kept []*model
		for range 3 {
			n := born(t, s)
			nodes = append(nodes, n)
			now = append(now, &model{blocks: map[int]bool{}, change: nodeOf(t, s, n).Change})
		}
		for range 600 {
			kept = nil
			for _, m := range now {
				kept = append(kept, m.copied())
			}
			ok := true
			for range 1 + r.Intn(2) {
				i := r.Intn(3)
				if !step(t, r, s, nodes[i], now[i], now, sectors) {
					ok = false
					break
				}
			}
			if ok && r.Intn(5) > 0 {
				must(t, "Commit", s.Commit())
			} else {
				s.Drop()
				now = kept
			}
			for i, m := range now {
				lies(t, "at random", s, nodes[i], string(m.data), m.sectors())
				if got := nodeOf(t, s, nodes[i]).Change; got != m.change {
					t.Fatalf("Change %d, want %d", got, m.change)
				}
			}
			sound(t, "at random", s, sectors, nodes...)
			if t.Failed() {
				return
			}
		}
	}
}

// step: something is done to a node and its model; false, if there was no room for it.
func step(t *testing.T, r *rand.Rand, s *store.Store, n int, m *model, all []*model, sectors int) bool {
	t.Helper()
	near := func() int {
		if r.Intn(2) == 0 {
			return r.Intn(12) * size
		}
		return r.Intn(len(m.data) + 2*size)
	}
	if r.Intn(4) == 0 {
		to := min(near(), maxSize)
		must(t, "Trunc", Trunc(s, n, to))
		m.trunc(to)
		return true
	}
	at, data := near(), []byte(letters(1+r.Intn(256), r.Intn(200)))
	if r.Intn(10) == 0 {
		at = r.Intn(maxSize)
	}
	e := Write(s, n, at, data)
	if at+len(data) > maxSize {
		is(t, "Write", e, api.ErrLarge)
		return false
	}
	m.write(at, data)
	need := sectors - atData
	for _, one := range all {
		need -= one.sectors()
	}
	if need < 0 {
		is(t, "Write", e, api.ErrSpace)
		return false
	}
	must(t, "Write", e)
	return true
}
