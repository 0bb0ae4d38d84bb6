package drive

import (
	"bytes"
	"math"
	"math/rand"
	"testing"

	"copyhold/api"
)

// The document's own bounds, not the program's.
const (
	size   = 128
	fewest = 64
	most   = 1024
)

// model: a drive by the chapter's words: what lasts, all writes since, and how many of them and of flushes there may still be (below 0: any number).
type model struct {
	lasts [][]byte
	since []api.Write
	fuse  int
	gone  bool
}

func newModel(sectors int) *model {
	m := &model{fuse: -1}
	for range sectors {
		m.lasts = append(m.lasts, make([]byte, size))
	}
	return m
}

func (m *model) get(n int) ([]byte, api.Errno) {
	if m.gone {
		return nil, api.ErrDown
	}
	if n < 0 || n >= len(m.lasts) {
		return nil, api.ErrRange
	}
	last := m.lasts[n]
	for _, w := range m.since {
		if w.At == n {
			last = w.Data
		}
	}
	return last, api.OK
}

// burn: the power goes, if nothing may be done any more.
func (m *model) burn() bool {
	if m.fuse == 0 {
		m.gone = true
	} else if m.fuse > 0 {
		m.fuse--
	}
	return m.gone
}

func (m *model) put(list []api.Write) api.Errno {
	if m.gone {
		return api.ErrDown
	}
	for _, w := range list {
		if w.At < 0 || w.At >= len(m.lasts) {
			return api.ErrRange
		}
	}
	for _, w := range list {
		if len(w.Data) != size {
			return api.ErrArg
		}
	}
	for _, w := range list {
		if m.burn() {
			return api.ErrDown
		}
		m.since = append(m.since, api.Write{At: w.At, Data: bytes.Clone(w.Data)})
	}
	return api.OK
}

func (m *model) flush() api.Errno {
	if m.gone || m.burn() {
		return api.ErrDown
	}
	for _, w := range m.since {
		m.lasts[w.At] = w.Data
	}
	m.since = nil
	return api.OK
}

func (m *model) restart(keep []int) {
	for i, w := range m.since {
		if len(keep) > i && keep[i] != 0 {
			m.lasts[w.At] = w.Data
		}
	}
	m.since, m.fuse, m.gone = nil, -1, false
}

// made: a new drive of so many sectors.
func made(t *testing.T, sectors int) *Drive {
	t.Helper()
	d, e := New(sectors)
	if d == nil || e != api.OK {
		t.Fatalf("New(%d): %v, %d", sectors, d, e)
	}
	return d
}

// full: a sector whose bytes are all the same.
func full(b byte) []byte {
	return bytes.Repeat([]byte{b}, size)
}

// w: a sector whose bytes are all the same will be written.
func w(at int, b byte) api.Write {
	return api.Write{At: at, Data: full(b)}
}

// has: a sector has these bytes, all the same.
func has(t *testing.T, d *Drive, at int, b byte) {
	t.Helper()
	got, e := d.Get(at)
	if e != api.OK || !bytes.Equal(got, full(b)) {
		t.Errorf("Get(%d): %v, %d; want bytes %d", at, got, e, b)
	}
}

// lasts: a sector has these bytes, all the same, in any case.
func lasts(t *testing.T, d *Drive, at int, b byte) {
	t.Helper()
	if got := d.Image()[at]; !bytes.Equal(got, full(b)) {
		t.Errorf("Image()[%d]: %v; want bytes %d", at, got, b)
	}
}

// is: that is what was answered.
func is(t *testing.T, what string, got, want api.Errno) {
	t.Helper()
	if got != want {
		t.Errorf("%s: %d, want %d", what, got, want)
	}
}

// isDown: all that needs power is barred, and tells nothing.
func isDown(t *testing.T, d *Drive) {
	t.Helper()
	for _, n := range []int{0, 1, -1, d.Sectors(), math.MaxInt, math.MinInt} {
		if b, e := d.Get(n); len(b) != 0 || e != api.ErrDown {
			t.Errorf("Get(%d) without power: %v, %d", n, b, e)
		}
	}
	is(t, "Put() without power", d.Put(), api.ErrDown)
	is(t, "Put without power", d.Put(w(0, 99)), api.ErrDown)
	is(t, "Put to no sector without power", d.Put(w(-1, 99)), api.ErrDown)
	is(t, "Put of no data without power", d.Put(api.Write{}), api.ErrDown)
	is(t, "Flush without power", d.Flush(), api.ErrDown)
}

// same: a drive is as the chapter says.
func same(t *testing.T, d *Drive, m *model) {
	t.Helper()
	image := d.Image()
	if d.Sectors() != len(m.lasts) || len(image) != len(m.lasts) {
		t.Fatalf("%d sectors, %d of the image, want %d", d.Sectors(), len(image), len(m.lasts))
	}
	for n := -1; n <= len(m.lasts); n++ {
		got, e := d.Get(n)
		want, f := m.get(n)
		if e != f || !bytes.Equal(got, want) {
			t.Fatalf("Get(%d): %v, %d; want %v, %d", n, got, e, want, f)
		}
		if n >= 0 && n < len(m.lasts) && !bytes.Equal(image[n], m.lasts[n]) {
			t.Fatalf("Image()[%d]: %v; want %v", n, image[n], m.lasts[n])
		}
	}
}

// P5.1: New and Sectors.
func TestNew(t *testing.T) {
	for sectors := -2; sectors <= most+2; sectors++ {
		d, e := New(sectors)
		if sectors < fewest || sectors > most {
			if d != nil || e != api.ErrArg {
				t.Errorf("New(%d): %v, %d", sectors, d, e)
			}
			continue
		}
		if d == nil || e != api.OK || d.Sectors() != sectors {
			t.Fatalf("New(%d): %d sectors, %d", sectors, d.Sectors(), e)
		}
	}
	for _, sectors := range []int{math.MinInt, -most, math.MaxInt32, 1<<32 + fewest, math.MaxInt} {
		if d, e := New(sectors); d != nil || e != api.ErrArg {
			t.Errorf("New(%d): %v, %d", sectors, d, e)
		}
	}
	for _, sectors := range []int{fewest, 100, most} {
		same(t, made(t, sectors), newModel(sectors))
	}
}

// P5.1: Get of numbers at their ends.
func TestGetEdges(t *testing.T) {
	for _, sectors := range []int{fewest, most} {
		d := made(t, sectors)
		is(t, "Put", d.Put(w(0, 1), w(sectors-1, 2)), api.OK)
		has(t, d, 0, 1)
		has(t, d, sectors-1, 2)
		for _, n := range []int{-1, sectors, sectors + 1, math.MaxInt, math.MinInt, 1 << 32, -sectors} {
			if b, e := d.Get(n); len(b) != 0 || e != api.ErrRange {
				t.Errorf("Get(%d) of %d: %v, %d", n, sectors, b, e)
			}
		}
	}
}

// P5.1: writes are done in order, in one Put and from Put to Put, all bytes of them.
func TestPutInOrder(t *testing.T) {
	d := made(t, fewest)
	is(t, "Put", d.Put(w(3, 1), w(4, 2), w(3, 5)), api.OK)
	has(t, d, 3, 5)
	has(t, d, 4, 2)
	is(t, "Put", d.Put(w(4, 7)), api.OK)
	is(t, "Put", d.Put(w(4, 8)), api.OK)
	has(t, d, 4, 8)
	has(t, d, 2, 0)
	has(t, d, 5, 0)
	rising := make([]byte, size)
	for i := range rising {
		rising[i] = byte(255 - i)
	}
	is(t, "Put", d.Put(api.Write{At: 9, Data: rising}), api.OK)
	if b, e := d.Get(9); e != api.OK || !bytes.Equal(b, rising) {
		t.Errorf("Get(9): %v, %d", b, e)
	}
	is(t, "Put of none", d.Put(), api.OK)
	is(t, "Put of an empty list", d.Put([]api.Write{}...), api.OK)
	has(t, d, 4, 8)
}

// P5.1, R2: a Put that is wrong somewhere writes nothing; the numbers come ahead of the bytes.
func TestPutWrong(t *testing.T) {
	short, long := full(1)[:size-1], append(full(1), 1)
	for i, c := range []struct {
		list []api.Write
		want api.Errno
	}{
		{[]api.Write{w(-1, 1)}, api.ErrRange},
		{[]api.Write{w(fewest, 1)}, api.ErrRange},
		{[]api.Write{w(math.MaxInt, 1)}, api.ErrRange},
		{[]api.Write{w(math.MinInt, 1)}, api.ErrRange},
		{[]api.Write{w(1<<32, 1)}, api.ErrRange},
		{[]api.Write{w(1, 1), w(2, 1), w(fewest, 1)}, api.ErrRange},
		{[]api.Write{w(-1, 1), w(1, 1)}, api.ErrRange},
		{[]api.Write{{At: 1}}, api.ErrArg},
		{[]api.Write{{At: 1, Data: []byte{}}}, api.ErrArg},
		{[]api.Write{{At: 1, Data: short}}, api.ErrArg},
		{[]api.Write{{At: 1, Data: long}}, api.ErrArg},
		{[]api.Write{{At: 1, Data: make([]byte, 2*size)}}, api.ErrArg},
		{[]api.Write{{At: 1, Data: make([]byte, 0, size)}}, api.ErrArg},
		{[]api.Write{w(1, 1), {At: 2, Data: short}}, api.ErrArg},
		{[]api.Write{{At: 2, Data: short}, w(1, 1)}, api.ErrArg},
		{[]api.Write{{At: fewest, Data: short}}, api.ErrRange},
		{[]api.Write{{At: 1, Data: short}, w(fewest, 1)}, api.ErrRange},
		{[]api.Write{{At: 1, Data: long}, w(2, 1), w(-1, 1)}, api.ErrRange},
	} {
		d, m := made(t, fewest), newModel(fewest)
		first := []api.Write{w(1, 8), w(2, 9)}
		is(t, "Put", d.Put(first...), m.put(first))
		if got := d.Put(c.list...); got != c.want {
			t.Errorf("%d: %d, want %d", i, got, c.want)
		}
		same(t, d, m)
		d.Restart(1, 1, 1, 1, 1)
		m.restart([]int{1, 1})
		same(t, d, m)
	}
}

// P5.1: what was flushed lasts, and what was not need not.
func TestFlush(t *testing.T) {
	d := made(t, fewest)
	is(t, "Flush of nothing", d.Flush(), api.OK)
	d.Put(w(1, 1), w(2, 2), w(1, 3))
	lasts(t, d, 1, 0)
	is(t, "Flush", d.Flush(), api.OK)
	lasts(t, d, 1, 3)
	lasts(t, d, 2, 2)
	d.Put(w(1, 4))
	d.Put(w(3, 5))
	lasts(t, d, 1, 3)
	has(t, d, 1, 4)
	d.Restart()
	for n, b := range []byte{0, 3, 2, 0} {
		has(t, d, n, b)
		lasts(t, d, n, b)
	}
	is(t, "Flush", d.Flush(), api.OK)
	has(t, d, 1, 3)
	has(t, d, 3, 0)
}

// P5.2: which writes of a Put a fuse lets through.
func TestFuseInPut(t *testing.T) {
	for n := range 6 {
		d := made(t, fewest)
		d.Put(w(9, 9))
		d.Fuse(n)
		e := d.Put(w(1, 1), w(2, 2), w(3, 3), w(1, 4))
		if n >= 4 {
			is(t, "Put within the fuse", e, api.OK)
			has(t, d, 1, 4)
			continue
		}
		is(t, "Put beyond the fuse", e, api.ErrDown)
		isDown(t, d)
		lasts(t, d, 9, 0)
		d.Restart(1, 1, 1, 1, 1, 1)
		for i, at := range []int{9, 1, 2, 3} {
			if i <= n {
				has(t, d, at, byte(at))
			} else {
				has(t, d, at, 0)
			}
		}
	}
}

// P5.2: a fuse goes on from Put to Put, and counts flushes, too.
func TestFuseCounts(t *testing.T) {
	d := made(t, fewest)
	d.Fuse(5)
	is(t, "two writes", d.Put(w(1, 1), w(2, 2)), api.OK)
	is(t, "a flush", d.Flush(), api.OK)
	is(t, "a flush of nothing", d.Flush(), api.OK)
	is(t, "the last write", d.Put(w(3, 3)), api.OK)
	has(t, d, 3, 3)
	is(t, "a flush too many", d.Flush(), api.ErrDown)
	isDown(t, d)
	lasts(t, d, 1, 1)
	lasts(t, d, 2, 2)
	lasts(t, d, 3, 0)
	d.Restart(1)
	has(t, d, 3, 3)
}

// P5.2: what is read, what is wrong and what has no writes is not counted, and the power does not go at it.
func TestFuseCountsNothingElse(t *testing.T) {
	d := made(t, fewest)
	d.Put(w(1, 1))
	for _, n := range []int{0, 2} {
		d.Fuse(n)
		for range 5 {
			has(t, d, 1, 1)
			lasts(t, d, 1, 0)
			is(t, "Put()", d.Put(), api.OK)
			is(t, "a wrong number", d.Put(w(2, 2), w(-1, 1)), api.ErrRange)
			is(t, "wrong data", d.Put(w(2, 2), api.Write{At: 1}), api.ErrArg)
			if d.Sectors() != fewest {
				t.Errorf("%d sectors", d.Sectors())
			}
		}
		if n == 2 {
			is(t, "two writes", d.Put(w(1, 1), w(1, 1)), api.OK)
		}
	}
	is(t, "a write too many", d.Put(w(1, 2)), api.ErrDown)
	isDown(t, d)
}

// P5.2: a flush that is not done makes nothing last.
func TestFuseInFlush(t *testing.T) {
	d := made(t, fewest)
	d.Put(w(1, 1), w(2, 2))
	d.Fuse(0)
	is(t, "Flush", d.Flush(), api.ErrDown)
	lasts(t, d, 1, 0)
	d.Restart(0, 1)
	has(t, d, 1, 0)
	has(t, d, 2, 2)
}

// P5.2: the last Fuse holds; below 0 there is none; it brings no power back.
func TestFuseAnew(t *testing.T) {
	for _, never := range []int{-1, -2, math.MinInt} {
		d := made(t, fewest)
		d.Fuse(1)
		d.Fuse(never)
		for i := range 300 {
			is(t, "Put", d.Put(w(i%fewest, byte(i))), api.OK)
			is(t, "Flush", d.Flush(), api.OK)
		}
		d.Fuse(0)
		d.Fuse(2)
		is(t, "Put", d.Put(w(1, 1), w(2, 2)), api.OK)
		is(t, "Put", d.Put(w(1, 1)), api.ErrDown)
		for _, n := range []int{never, 0, 7, math.MaxInt} {
			d.Fuse(n)
			isDown(t, d)
		}
		d.Restart()
		is(t, "Put", d.Put(w(1, 1), w(1, 2), w(1, 3)), api.OK)
	}
	d := made(t, fewest)
	d.Fuse(math.MaxInt)
	is(t, "Put", d.Put(w(1, 1)), api.OK)
	is(t, "Flush", d.Flush(), api.OK)
}

// P5.2: behind a Restart there is no Fuse, whether it has burnt or not.
func TestRestartWithoutFuse(t *testing.T) {
	for _, n := range []int{0, 1, 3} {
		for _, burn := range []bool{false, true} {
			d := made(t, fewest)
			d.Fuse(n)
			for range n + 1 {
				if burn {
					d.Flush()
				}
			}
			if burn {
				isDown(t, d)
			}
			d.Restart()
			for range 9 {
				is(t, "Put", d.Put(w(1, 1)), api.OK)
				is(t, "Flush", d.Flush(), api.OK)
			}
		}
	}
}

// P5.2: each choice of what lasts, of writes to the same and to other sectors; a number below 0 is none that is 0.
func TestRestartKeeps(t *testing.T) {
	list := []api.Write{w(1, 1), w(2, 2), w(1, 3), w(3, 4), w(1, 5)}
	for choice := range 1 << 5 {
		for length := range 8 {
			for _, yes := range []int{1, -1, math.MinInt, math.MaxInt, 256, 1 << 32} {
				keep := make([]int, length)
				for i := range keep {
					keep[i] = yes * (choice >> i & 1)
				}
				d, m := made(t, fewest), newModel(fewest)
				before := []api.Write{w(1, 10), w(3, 30)}
				d.Put(before...)
				d.Flush()
				m.put(before)
				m.flush()
				d.Put(list[:2]...)
				d.Put(list[2:]...)
				m.put(list)
				d.Restart(keep...)
				m.restart(keep)
				for n := range 4 {
					want, _ := m.get(n)
					if got, e := d.Get(n); e != api.OK || !bytes.Equal(got, want) || !bytes.Equal(d.Image()[n], want) {
						t.Fatalf("Restart(%v), sector %d: %v, %d; want %v", keep, n, got, e, want)
					}
				}
			}
		}
	}
}

// P5.2: what a Restart lost is gone, and what it kept lasts.
func TestRestartTwice(t *testing.T) {
	d := made(t, fewest)
	d.Put(w(1, 1), w(2, 2), w(3, 3))
	d.Restart(0, 1)
	lasts(t, d, 2, 2)
	d.Restart(1, 0, 1)
	for n, b := range []byte{0, 0, 2, 0} {
		has(t, d, n, b)
		lasts(t, d, n, b)
	}
	d.Put(w(4, 4))
	d.Restart(1)
	d.Flush()
	for n, b := range []byte{0, 0, 2, 0, 4} {
		has(t, d, n, b)
		lasts(t, d, n, b)
	}
}

// P5.2: Image, without power, too; nothing changes by it.
func TestImage(t *testing.T) {
	d := made(t, most)
	d.Put(w(0, 1), w(most-1, 2))
	d.Flush()
	d.Put(w(0, 3), w(7, 4))
	d.Fuse(0)
	for _, e := range []api.Errno{api.OK, api.ErrDown} {
		for range 3 {
			image := d.Image()
			if len(image) != most {
				t.Fatalf("%d sectors", len(image))
			}
			for n, b := range image {
				want := map[int]byte{0: 1, most - 1: 2}[n]
				if !bytes.Equal(b, full(want)) {
					t.Fatalf("sector %d: %v", n, b)
				}
			}
		}
		if _, got := d.Get(0); got != e {
			t.Errorf("Get: %d, want %d", got, e)
		}
		is(t, "Flush", d.Flush(), api.ErrDown)
		if d.Sectors() != most {
			t.Errorf("%d sectors", d.Sectors())
		}
	}
	d.Restart(1, 1)
	has(t, d, 0, 3)
	has(t, d, 7, 4)
}

// All calls of no drive.
func TestNil(t *testing.T) {
	var d *Drive
	for _, n := range []int{0, -1, 1, math.MaxInt, math.MinInt} {
		if b, e := d.Get(n); len(b) != 0 || e != api.ErrArg {
			t.Errorf("Get(%d): %v, %d", n, b, e)
		}
		d.Fuse(n)
	}
	d.Restart()
	d.Restart(1, 0)
	is(t, "Put()", d.Put(), api.ErrArg)
	is(t, "Put", d.Put(w(1, 1)), api.ErrArg)
	is(t, "Put to no sector", d.Put(w(-1, 1)), api.ErrArg)
	is(t, "Flush", d.Flush(), api.ErrArg)
	if n, image := d.Sectors(), d.Image(); n != 0 || len(image) != 0 {
		t.Errorf("%d sectors, %v", n, image)
	}
}

// A drive that New did not make has no sectors, and answers.
func TestEmpty(t *testing.T) {
	d := &Drive{}
	same(t, d, newModel(0))
	is(t, "Put()", d.Put(), api.OK)
	is(t, "Put", d.Put(w(0, 1)), api.ErrRange)
	is(t, "Flush", d.Flush(), api.OK)
	d.Fuse(0)
	is(t, "Flush", d.Flush(), api.ErrDown)
	d.Restart(1)
	is(t, "Flush", d.Flush(), api.OK)
}

// spoil: all bytes of a list, and of its spare room, are others.
func spoil(b []byte) {
	b = b[:cap(b)]
	for i := range b {
		b[i] ^= 0xff
	}
}

// R4: what is handed in is not changed, and not kept.
func TestArguments(t *testing.T) {
	d := made(t, fewest)
	room := append(full(7), full(8)...)
	list := make([]api.Write, 3)
	for i := range list {
		list[i] = api.Write{At: i + 1, Data: room[:size]}
	}
	keep := []int{1, 0, 1, 5, 6}
	is(t, "Put", d.Put(list[:2]...), api.OK)
	if !bytes.Equal(room[:size], full(7)) || !bytes.Equal(room[size:], full(8)) {
		t.Error("the bytes were changed")
	}
	for i := range list {
		if list[i].At != i+1 || &list[i].Data[0] != &room[0] || len(list[i].Data) != size {
			t.Error("the list was changed")
		}
	}
	spoil(room)
	list[0].At, list[1].At = 9, 10
	has(t, d, 1, 7)
	has(t, d, 2, 7)
	d.Restart(keep[:3]...)
	for i, n := range []int{1, 0, 1, 5, 6} {
		if keep[i] != n {
			t.Error("the numbers were changed")
		}
	}
	has(t, d, 1, 7)
	has(t, d, 2, 0)
	lasts(t, d, 1, 7)
	has(t, d, 9, 0)
	is(t, "Put", d.Put(w(2, 5)), api.OK)
	is(t, "Flush", d.Flush(), api.OK)
	lasts(t, d, 2, 5)
}

// R4: what is answered is new memory, spare room included.
func TestAnswers(t *testing.T) {
	d := made(t, fewest)
	d.Put(w(1, 1), w(2, 2))
	d.Flush()
	d.Put(w(1, 3))
	first, _ := d.Get(1)
	again, _ := d.Get(1)
	next, _ := d.Get(2)
	spoil(first)
	if !bytes.Equal(again, full(3)) || !bytes.Equal(next, full(2)) {
		t.Error("two answers of Get share memory")
	}
	image, other := d.Image(), d.Image()
	for i := range image {
		rest := make([][]byte, len(image))
		for j := range image {
			rest[j] = bytes.Clone(image[j])
		}
		spoil(image[i])
		for j := range image {
			if i != j && !bytes.Equal(image[j], rest[j]) {
				t.Fatalf("sectors %d and %d of an image share memory", i, j)
			}
		}
	}
	clear(image[:cap(image)])
	for n, b := range []byte{0, 1, 2} {
		if !bytes.Equal(other[n], full(b)) {
			t.Error("two images share memory")
		}
		lasts(t, d, n, b)
	}
	has(t, d, 1, 3)
	has(t, d, 2, 2)
	is(t, "Flush", d.Flush(), api.OK)
	lasts(t, d, 1, 3)
	if !bytes.Equal(other[1], full(1)) {
		t.Error("an image changes later")
	}
}

// R5: two drives know nothing of each other.
func TestApart(t *testing.T) {
	a, b := made(t, fewest), made(t, fewest)
	a.Put(w(1, 1))
	b.Put(w(1, 2))
	a.Fuse(0)
	is(t, "Flush", b.Flush(), api.OK)
	is(t, "Flush", a.Flush(), api.ErrDown)
	has(t, b, 1, 2)
	a.Restart(1)
	has(t, a, 1, 1)
	has(t, b, 1, 2)
}

// someWrites: mostly right ones.
func someWrites(r *rand.Rand, sectors int) []api.Write {
	list := make([]api.Write, r.Intn(6))
	for i := range list {
		list[i] = w(r.Intn(6), byte(r.Intn(256)))
		switch r.Intn(40) {
		case 0:
			list[i].At = sectors + r.Intn(2)
		case 1:
			list[i].At = -1 - r.Intn(2)
		case 2:
			list[i].Data = list[i].Data[:size-1]
		case 3:
			list[i].At = sectors - 1
		}
	}
	return list
}

// someNumbers: for a Restart.
func someNumbers(r *rand.Rand) []int {
	keep := make([]int, r.Intn(12))
	for i := range keep {
		keep[i] = r.Intn(3) - 1
	}
	return keep
}

// All calls in any order, held against the model.
func TestModel(t *testing.T) {
	r := rand.New(rand.NewSource(5))
	for range 60 {
		sectors := fewest + r.Intn(4)
		d, m := made(t, sectors), newModel(sectors)
		for range 200 {
			switch r.Intn(8) {
			case 0, 1, 2, 3:
				list := someWrites(r, sectors)
				is(t, "Put", d.Put(list...), m.put(list))
			case 4, 5:
				is(t, "Flush", d.Flush(), m.flush())
			case 6:
				n := r.Intn(16) - 2
				d.Fuse(n)
				m.fuse = n
			case 7:
				keep := someNumbers(r)
				d.Restart(keep...)
				m.restart(keep)
			}
			same(t, d, m)
			if t.Failed() {
				t.FailNow()
			}
		}
	}
}
