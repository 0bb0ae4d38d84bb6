package redo

import (
	"bytes"
	"encoding/binary"
	"hash/crc32"
	"math"
	"math/rand"
	"slices"
	"testing"

	"copyhold/api"
	"copyhold/drive"
)

// The document's own bounds, not the program's.
const (
	size    = 128
	fewest  = 64
	most    = 1024
	longest = 24
	atHead  = 1
	atBody  = 2
	behind  = 26
)

// headOf: a head by the chapter's words, whatever is in it. A count of its own may be told.
func headOf(count uint32, numbers ...int) []byte {
	b := make([]byte, size)
	copy(b, "REDO")
	binary.LittleEndian.PutUint32(b[4:], count)
	for i, n := range numbers {
		binary.LittleEndian.PutUint16(b[8+2*i:], uint16(n))
	}
	return summed(b)
}

// summed: with the right sum at its end.
func summed(b []byte) []byte {
	binary.LittleEndian.PutUint32(b[size-4:], crc32.ChecksumIEEE(b[:size-4]))
	return b
}

// head: of these numbers.
func head(numbers ...int) []byte {
	return headOf(uint32(len(numbers)), numbers...)
}

// full: a sector whose bytes are all the same.
func full(b byte) []byte {
	return bytes.Repeat([]byte{b}, size)
}

// w: a sector whose bytes are all the same will be written.
func w(at int, b byte) api.Write {
	return api.Write{At: at, Data: full(b)}
}

// is: that is what was answered.
func is(t *testing.T, what string, got, want api.Errno) {
	t.Helper()
	if got != want {
		t.Errorf("%s: %d, want %d", what, got, want)
	}
}

// plain: a drive without a log, with bytes of its own in all sectors but those of the log.
func plain(t *testing.T, sectors int) *drive.Drive {
	t.Helper()
	d, e := drive.New(sectors)
	if e != api.OK {
		t.Fatalf("New(%d): %d", sectors, e)
	}
	for n := range sectors {
		if n < atHead || n >= behind {
			d.Put(w(n, byte(200+n%50)))
		}
	}
	d.Flush()
	return d
}

// ready: such a drive, with an empty log.
func ready(t *testing.T, sectors int) *drive.Drive {
	t.Helper()
	d := plain(t, sectors)
	d.Put(api.Write{At: atHead, Data: head()})
	d.Flush()
	return d
}

// with: sectors as they were, but for some that were written.
func with(image [][]byte, list ...api.Write) [][]byte {
	image = slices.Clone(image)
	for _, one := range list {
		image[one.At] = one.Data
	}
	return image
}

// alike: are all sectors the same, but for those of the log?
func alike(a, b [][]byte) bool {
	if len(a) != len(b) {
		return false
	}
	for n := range a {
		if (n < atHead || n >= behind) && !bytes.Equal(a[n], b[n]) {
			return false
		}
	}
	return true
}

// same: are all sectors the same, those of the log, too?
func same(a, b [][]byte) bool {
	return slices.EqualFunc(a, b, bytes.Equal)
}

// now: all sectors as they are, whether that lasts or not.
func now(t *testing.T, d *drive.Drive) [][]byte {
	t.Helper()
	image := make([][]byte, d.Sectors())
	for n := range image {
		b, e := d.Get(n)
		if e != api.OK {
			t.Fatalf("Get(%d): %d", n, e)
		}
		image[n] = b
	}
	return image
}

// settled: the drive is so, and lasts, and the head has no numbers.
func settled(t *testing.T, what string, d *drive.Drive, want [][]byte) {
	t.Helper()
	image := d.Image()
	if !alike(image, want) {
		t.Errorf("%s: other sectors last", what)
	}
	if !bytes.Equal(image[atHead], head()) {
		t.Errorf("%s: what lasts of the head: %v", what, image[atHead])
	}
	if !same(now(t, d), image) {
		t.Errorf("%s: something does not last", what)
	}
}

// isDown: both calls tell that there is no power, behind what they ask of their arguments.
func isDown(t *testing.T, d *drive.Drive) {
	t.Helper()
	is(t, "Recover without power", Recover(d), api.ErrDown)
	is(t, "Commit without power", Commit(d, w(40, 1)), api.ErrDown)
	is(t, "Commit of none without power", Commit(d), api.OK)
	is(t, "a wrong Commit without power", Commit(d, w(1, 1)), api.ErrArg)
	is(t, "a Commit of no data without power", Commit(d, api.Write{At: 40}), api.ErrArg)
	is(t, "a Commit to no sector without power", Commit(d, w(d.Sectors(), 1)), api.ErrArg)
}

// steps: how many writes and flushes a call takes.
func steps(t *testing.T, call func(fuse int) api.Errno) int {
	t.Helper()
	for n := range 200 {
		if call(n) == api.OK {
			return n
		}
	}
	t.Fatal("a call does not end")
	return 0
}

// choices: each choice of so many numbers for a Restart, or some of them, if there are many.
func choices(r *rand.Rand, count int) [][]int {
	var all [][]int
	number := min(1<<min(count, 4), 12)
	for choice := range number {
		keep := make([]int, count)
		for i := range keep {
			keep[i] = choice >> i & 1
			if count > 3 {
				keep[i] = r.Intn(2)
			}
		}
		all = append(all, keep)
	}
	return append(all, nil, slices.Repeat([]int{1}, count))
}

// P6.1: a head, byte by byte.
func TestHead(t *testing.T) {
	all := make([]int, longest)
	for i := range all {
		all[i] = most - 1 - i
	}
	for _, list := range [][]int{nil, {}, {0}, {26}, {1023}, {30, 0, 1023}, {258, 513}, {513, 258}, {0, 26, 63, 64, 255, 256}, all, all[:23]} {
		b, e := Head(list...)
		if e != api.OK || !bytes.Equal(b, head(list...)) {
			t.Errorf("Head(%v): %v, %d", list, b, e)
		}
		got, e := Heads(b)
		if e != api.OK || !slices.Equal(got, list) {
			t.Errorf("Heads of Head(%v): %v, %d", list, got, e)
		}
	}
	b, _ := Head(513)
	if want := "REDO\x01\x00\x00\x00\x01\x02\x00\x00"; len(b) != size || string(b[:12]) != want {
		t.Errorf("Head(513): %v", b)
	}
}

// P6.1: each number alone, and at their ends.
func TestHeadNumbers(t *testing.T) {
	for n := -3; n < most+3; n++ {
		b, e := Head(n)
		if n < 0 || n >= most || n >= atHead && n < behind {
			if len(b) != 0 || e != api.ErrArg {
				t.Errorf("Head(%d): %v, %d", n, b, e)
			}
			continue
		}
		if e != api.OK || !bytes.Equal(b, head(n)) {
			t.Errorf("Head(%d): %v, %d", n, b, e)
		}
	}
	for _, n := range []int{math.MinInt, math.MaxInt, 1 << 16, 1<<16 + 30, 1 << 32, 1<<32 + 30, -30, -65536 + 30} {
		for _, list := range [][]int{{n}, {30, n}, {n, 30}} {
			if b, e := Head(list...); len(b) != 0 || e != api.ErrArg {
				t.Errorf("Head(%v): %v, %d", list, b, e)
			}
		}
	}
}

// P6.1: numbers that may not be in a head together.
func TestHeadWrong(t *testing.T) {
	many := make([]int, longest+1)
	for i := range many {
		many[i] = 30 + i
	}
	twice := slices.Clone(many[:longest])
	twice[longest-1] = twice[0]
	for _, list := range [][]int{many, twice, {30, 30}, {0, 0}, {30, 31, 30}, {31, 30, 30}, {30, 1}, {2, 30}, {30, 25}, make([]int, 25), make([]int, 100000)} {
		if b, e := Head(list...); len(b) != 0 || e != api.ErrArg {
			t.Errorf("Head of %d numbers: %v, %d", len(list), b, e)
		}
	}
}

// P6.1: bytes that are no head, though their sum is right.
func TestHeadsWrong(t *testing.T) {
	if l, e := Heads(head(30, 40)); e != api.OK || !slices.Equal(l, []int{30, 40}) {
		t.Fatalf("%v, %d", l, e)
	}
	many := make([]int, longest+1)
	for i := range many {
		many[i] = 30 + i
	}
	changed := func(at int, to byte) []byte {
		b := head(30, 40)
		b[at] = to
		return summed(b)
	}
	zeros := make([]byte, size)
	binary.BigEndian.PutUint32(zeros[size-4:], crc32.ChecksumIEEE(zeros[:size-4]))
	big := head(30)
	binary.BigEndian.PutUint32(big[size-4:], crc32.ChecksumIEEE(big[:size-4]))
	for i, b := range [][]byte{
		nil, {}, make([]byte, size), summed(make([]byte, size)), zeros, big, full(255),
		head()[:size-1], append(head(), 0), head()[:8], append(head(), head()...), []byte("REDO"),
		head(30, 30), head(1), head(2), head(25), head(30, 2), head(1024), head(65535),
		head(many...), head(make([]int, 25)...),
		headOf(4, 30, 40), headOf(1, 30, 40), headOf(0, 30), headOf(25), headOf(62), headOf(1 << 16),
		headOf(1<<24+2, 30, 40), headOf(1<<31, 30), headOf(math.MaxUint32, 30), headOf(1<<8+2, 30, 40),
		changed(0, 'r'), changed(3, 'X'), changed(12, 1), changed(60, 1), changed(size-5, 1), changed(7, 128),
	} {
		if l, e := Heads(b); len(l) != 0 || e != api.ErrForm {
			t.Errorf("%d: %v, %d", i, l, e)
		}
	}
}

// P6.1: any bit that is turned, and any length but a sector's.
func TestHeadsTurned(t *testing.T) {
	for _, list := range [][]int{nil, {30}, {1023, 0, 26}} {
		for i := range size * 8 {
			b := head(list...)
			b[i/8] ^= 1 << (i % 8)
			if l, e := Heads(b); len(l) != 0 || e != api.ErrForm {
				t.Fatalf("%v, bit %d: %v, %d", list, i, l, e)
			}
		}
		for length := range 2 * size {
			b := append(head(list...), make([]byte, size)...)[:length]
			if _, e := Heads(b); (e == api.OK) != (length == size) || e != api.OK && e != api.ErrForm {
				t.Errorf("%v, %d bytes: %d", list, length, e)
			}
		}
	}
}

// P6.2: sectors are written, in whatever order, up to as many as a log has, and that lasts.
func TestCommit(t *testing.T) {
	for _, sectors := range []int{fewest, 100, most} {
		d := ready(t, sectors)
		want := d.Image()
		for count := 1; count <= longest; count++ {
			var list []api.Write
			for i := range count {
				list = append(list, w(sectors-1-i, byte(count+i)))
			}
			list[count-1].At = 0
			is(t, "Commit", Commit(d, list...), api.OK)
			want = with(want, list...)
			settled(t, "Commit", d, want)
			is(t, "Recover behind it", Recover(d), api.OK)
			settled(t, "Recover", d, want)
		}
		rising := make([]byte, size)
		for i := range rising {
			rising[i] = byte(255 - i)
		}
		list := []api.Write{{At: behind, Data: rising}, w(sectors-1, 9), w(27, 8)}
		is(t, "Commit", Commit(d, list...), api.OK)
		want = with(want, list...)
		settled(t, "Commit", d, want)
		d.Restart()
		settled(t, "behind a Restart", d, want)
	}
}

// wrongLists: what can't be committed to a drive of the fewest sectors.
func wrongLists() [][]api.Write {
	short, long := full(1)[:size-1], append(full(1), 1)
	lists := [][]api.Write{
		{w(30, 1), w(30, 1)}, {w(30, 1), w(31, 1), w(30, 2)}, {w(0, 1), w(0, 1)},
		{w(30, 1), {At: 31}}, {{At: 31}, w(30, 1)}, {{}}, {{At: 30}}, {{At: 30, Data: []byte{}}},
		{{At: 30, Data: short}}, {{At: 30, Data: long}}, {w(30, 1), {At: 31, Data: short}},
		{{At: 30, Data: make([]byte, 2*size)}}, {{At: 30, Data: make([]byte, 0, size)}},
		{{At: fewest, Data: short}}, {{At: 1, Data: long}},
	}
	for _, n := range []int{-1, 1, 2, 13, 25, fewest, fewest + 1, most - 1, most, math.MaxInt, math.MinInt, 1<<16 + 30, 1<<32 + 30} {
		lists = append(lists, []api.Write{w(n, 1)}, []api.Write{w(30, 1), w(n, 1)}, []api.Write{w(n, 1), w(30, 1)})
	}
	var many []api.Write
	for i := range longest + 1 {
		many = append(many, w(30+i, 1))
	}
	return append(lists, many, make([]api.Write, 100000))
}

// P6.2: a Commit that is wrong changes nothing, whether there is a log or not.
func TestCommitWrong(t *testing.T) {
	for i, list := range wrongLists() {
		for _, d := range []*drive.Drive{ready(t, fewest), plain(t, fewest)} {
			before := d.Image()
			d.Fuse(0)
			if e := Commit(d, list...); e != api.ErrArg {
				t.Errorf("%d: %d", i, e)
			}
			if !same(now(t, d), before) {
				t.Errorf("%d: something was written", i)
			}
		}
	}
}

// P6.2: whether a sector is there hangs on the drive.
func TestCommitEdges(t *testing.T) {
	for _, sectors := range []int{fewest, 65, most - 1, most} {
		d := ready(t, sectors)
		want := with(d.Image(), w(sectors-1, 1), w(0, 2), w(behind, 3))
		is(t, "a sector too many", Commit(d, w(sectors, 1)), api.ErrArg)
		is(t, "Commit", Commit(d, w(sectors-1, 1), w(0, 2), w(behind, 3)), api.OK)
		settled(t, "Commit", d, want)
	}
}

// P6.2: nil, none, no power, no log, in this order.
func TestWhichError(t *testing.T) {
	is(t, "Commit of nil", Commit(nil, w(30, 1)), api.ErrArg)
	is(t, "Commit of nil and none", Commit(nil), api.ErrArg)
	is(t, "Recover of nil", Recover(nil), api.ErrArg)
	for _, d := range []*drive.Drive{ready(t, fewest), plain(t, fewest)} {
		before := d.Image()
		d.Fuse(0)
		is(t, "Commit of none", Commit(d), api.OK)
		is(t, "Commit of an empty list", Commit(d, []api.Write{}...), api.OK)
		if !same(now(t, d), before) {
			t.Error("Commit of none writes")
		}
		is(t, "Flush", d.Flush(), api.ErrDown)
		isDown(t, d)
		d.Restart()
		if !same(now(t, d), before) {
			t.Error("something was written without power")
		}
	}
}

// P6.2: Commit of none does nothing, to what an earlier one left, either.
func TestCommitOfNone(t *testing.T) {
	d := ready(t, fewest)
	d.Put(w(atBody, 7), api.Write{At: atHead, Data: head(40)})
	d.Flush()
	before := d.Image()
	is(t, "Commit of none", Commit(d), api.OK)
	if !same(now(t, d), before) {
		t.Error("Commit of none writes")
	}
}

// P6.2: without a log both answer ErrForm, and nothing is written.
func TestNoLog(t *testing.T) {
	turned := head()
	turned[100] = 1
	for i, b := range [][]byte{make([]byte, size), full(7), turned, head(30, 30), head(2), headOf(25), headOf(2)} {
		d := plain(t, fewest)
		d.Put(api.Write{At: atHead, Data: b})
		d.Flush()
		before := d.Image()
		d.Fuse(0)
		if e, f := Commit(d, w(40, 1)), Recover(d); e != api.ErrForm || f != api.ErrForm {
			t.Errorf("%d: %d, %d", i, e, f)
		}
		if !same(now(t, d), before) {
			t.Errorf("%d: something was written", i)
		}
	}
}

// P6.2: a head with a number that is no sector of the drive bars a Recover, but not a Commit, as there is a log.
func TestNumbersOfAnotherDrive(t *testing.T) {
	for _, numbers := range [][]int{{fewest}, {most - 1}, {40, fewest}, {fewest, 40}} {
		d := plain(t, fewest)
		d.Put(w(atBody, 7), w(atBody+1, 7), api.Write{At: atHead, Data: head(numbers...)})
		d.Flush()
		before := d.Image()
		is(t, "Recover", Recover(d), api.ErrForm)
		if !same(now(t, d), before) {
			t.Error("Recover writes")
		}
		is(t, "Commit", Commit(d, w(41, 1)), api.OK)
		settled(t, "Commit", d, with(before, w(41, 1)))
	}
	d := ready(t, fewest)
	d.Put(w(atBody, 7), api.Write{At: atHead, Data: head(fewest - 1)})
	d.Flush()
	want := with(d.Image(), w(fewest-1, 7))
	is(t, "Recover of the last sector", Recover(d), api.OK)
	settled(t, "Recover", d, want)
}

// P6.2: Recover writes nothing, if the head has no numbers; nor does it spend power.
func TestRecoverNothing(t *testing.T) {
	d := ready(t, fewest)
	d.Put(w(atBody, 7), w(atBody+1, 8))
	d.Flush()
	before := d.Image()
	d.Fuse(0)
	for range 3 {
		is(t, "Recover", Recover(d), api.OK)
	}
	if !same(now(t, d), before) || !same(d.Image(), before) {
		t.Error("Recover writes")
	}
	is(t, "Flush", d.Flush(), api.ErrDown)
}

// P6.2: behind OK of Recover the head has no numbers, and that lasts, if it did not do so before, too.
func TestRecoverMakesLast(t *testing.T) {
	d := plain(t, fewest)
	want := d.Image()
	d.Put(api.Write{At: atHead, Data: head()})
	is(t, "Recover", Recover(d), api.OK)
	settled(t, "Recover", d, want)
	d.Put(w(atBody, 7), api.Write{At: atHead, Data: head(40)})
	is(t, "Recover", Recover(d), api.OK)
	settled(t, "Recover", d, with(want, w(40, 7)))
	d = plain(t, fewest)
	d.Put(api.Write{At: atHead, Data: head()})
	d.Fuse(0)
	is(t, "Recover without power for it", Recover(d), api.ErrDown)
}

// P6.2: Recover does what is left, of as many as a log has, and just once.
func TestRecover(t *testing.T) {
	for _, count := range []int{1, 2, 23, longest} {
		d := ready(t, most)
		want := d.Image()
		numbers := make([]int, count)
		for i := range numbers {
			numbers[i] = most - 1 - 7*i
			d.Put(w(atBody+i, byte(i+1)))
			want = with(want, w(numbers[i], byte(i+1)))
		}
		d.Put(api.Write{At: atHead, Data: head(numbers...)})
		d.Flush()
		is(t, "Recover", Recover(d), api.OK)
		settled(t, "Recover", d, want)
		d.Put(w(numbers[0], 99))
		is(t, "Recover", Recover(d), api.OK)
		d.Flush()
		settled(t, "Recover again", d, with(want, w(numbers[0], 99)))
	}
}

// someList: so many sectors that will be written.
func someList(count, first int, b byte) []api.Write {
	var list []api.Write
	for i := range count {
		list = append(list, w(first+i, b+byte(i)))
	}
	return list
}

// P6.2, P4: whenever the power goes in a Commit, and whatever lasts, all is written behind a Recover, or none.
func TestCutCommit(t *testing.T) {
	r := rand.New(rand.NewSource(6))
	for _, count := range []int{1, 2, 3, 4, longest} {
		list := someList(count, 30, 1)
		total := steps(t, func(fuse int) api.Errno {
			d := ready(t, fewest)
			d.Fuse(fuse)
			return Commit(d, list...)
		})
		done, undone := 0, 0
		for fuse := range total {
			for _, keep := range choices(r, count) {
				d := ready(t, fewest)
				before := d.Image()
				d.Fuse(fuse)
				is(t, "Commit", Commit(d, list...), api.ErrDown)
				isDown(t, d)
				d.Restart(keep...)
				is(t, "Recover", Recover(d), api.OK)
				if alike(d.Image(), before) {
					settled(t, "none", d, before)
					undone++
				} else {
					settled(t, "all", d, with(before, list...))
					done++
				}
			}
		}
		if done == 0 || undone == 0 {
			t.Errorf("%d sectors: %d times all, %d times none", count, done, undone)
		}
	}
}

// P6.2, P4: likewise if the power goes in a Recover, too, twice in a row.
func TestCutRecover(t *testing.T) {
	r := rand.New(rand.NewSource(7))
	list := someList(2, 30, 1)
	logged := func() *drive.Drive {
		d := ready(t, fewest)
		d.Put(w(atBody, 1), w(atBody+1, 2), api.Write{At: atHead, Data: head(30, 31)})
		d.Flush()
		return d
	}
	total := steps(t, func(fuse int) api.Errno {
		d := logged()
		d.Fuse(fuse)
		return Recover(d)
	})
	for first := range total {
		for second := range total + 1 {
			for _, keep := range choices(r, 2) {
				for _, other := range choices(r, 2) {
					d := logged()
					want := with(d.Image(), list...)
					d.Fuse(first)
					is(t, "Recover", Recover(d), api.ErrDown)
					isDown(t, d)
					d.Restart(keep...)
					d.Fuse(second)
					Recover(d)
					d.Restart(other...)
					is(t, "Recover", Recover(d), api.OK)
					settled(t, "Recover", d, want)
				}
			}
		}
	}
}

// P6.2: a Commit behind one that was cut off, without a Recover between: what was begun is done, or not at all, and so is this one.
func TestCommitBehindCut(t *testing.T) {
	r := rand.New(rand.NewSource(8))
	a, b := someList(3, 30, 1), someList(2, 32, 11)
	total := steps(t, func(fuse int) api.Errno {
		d := ready(t, fewest)
		d.Fuse(fuse)
		return Commit(d, a...)
	})
	for first := range total {
		for second := range 2*total + 1 {
			for _, keep := range choices(r, 3) {
				for _, other := range choices(r, 3) {
					d := ready(t, fewest)
					none := d.Image()
					d.Fuse(first)
					is(t, "Commit", Commit(d, a...), api.ErrDown)
					d.Restart(keep...)
					d.Fuse(second)
					e := Commit(d, b...)
					d.Restart(other...)
					is(t, "Recover", Recover(d), api.OK)
					all := with(none, a...)
					could := [][][]byte{with(none, b...), with(all, b...)}
					if e != api.OK {
						could = append(could, none, all)
					}
					if !slices.ContainsFunc(could, func(image [][]byte) bool { return alike(image, d.Image()) }) {
						t.Fatalf("fuses %d and %d, keep %v and %v: neither all nor none", first, second, keep, other)
					}
				}
			}
		}
	}
}

// R4: what is handed in is not changed, spare room included, and not kept; what is answered is new memory.
func TestMemory(t *testing.T) {
	numbers := []int{30, 31, 99, 98}
	one, _ := Head(numbers[:2]...)
	two, _ := Head(numbers[:2]...)
	if !slices.Equal(numbers, []int{30, 31, 99, 98}) {
		t.Error("Head changes its numbers")
	}
	clear(one[:cap(one)])
	if !bytes.Equal(two, head(30, 31)) {
		t.Error("two heads share memory")
	}
	room := append(head(30, 31), full(9)...)
	kept := bytes.Clone(room)
	first, _ := Heads(room[:size])
	second, _ := Heads(room[:size])
	clear(first[:cap(first)])
	if !bytes.Equal(room, kept) || !slices.Equal(second, []int{30, 31}) {
		t.Error("Heads changes what it was given, or shares what it answers")
	}
	d := ready(t, fewest)
	list := []api.Write{{At: 30, Data: room[:size]}, {At: 31, Data: room[size : 2*size]}, w(40, 5)}
	want := with(d.Image(), api.Write{At: 30, Data: kept[:size]}, api.Write{At: 31, Data: kept[size:]})
	is(t, "Commit", Commit(d, list[:2]...), api.OK)
	if !bytes.Equal(room, kept) || list[0].At != 30 || list[1].At != 31 || list[2].At != 40 || !bytes.Equal(list[2].Data, full(5)) {
		t.Error("Commit changes what it was given")
	}
	clear(room)
	settled(t, "Commit", d, want)
}

// R1: a drive that drive.New did not make has no sectors, and so no log.
func TestEmptyDrive(t *testing.T) {
	d := &drive.Drive{}
	is(t, "Recover", Recover(d), api.ErrForm)
	is(t, "Commit", Commit(d, w(30, 1)), api.ErrArg)
	is(t, "Commit of none", Commit(d), api.OK)
	d.Fuse(0)
	d.Flush()
	is(t, "Recover without power", Recover(d), api.ErrDown)
}

// Commits in any order, cut off at any moment, and recovered with cuts: behind each of them the drive is as if the ones that held had been written at once.
func TestModel(t *testing.T) {
	r := rand.New(rand.NewSource(9))
	for range 40 {
		sectors := fewest + r.Intn(4)
		d := ready(t, sectors)
		held := d.Image()
		for step := range 40 {
			var list []api.Write
			for i, n := range r.Perm(sectors - behind)[:1+r.Intn(longest)] {
				list = append(list, w(behind+n, byte(step*7+i)))
			}
			d.Fuse(r.Intn(90) - 10)
			e := Commit(d, list...)
			for again := e; again != api.OK || r.Intn(3) == 0; {
				keep := make([]int, r.Intn(longest+2))
				for i := range keep {
					keep[i] = r.Intn(3) - 1
				}
				d.Restart(keep...)
				d.Fuse(r.Intn(40) - 5)
				again = Recover(d)
				if again != api.OK && again != api.ErrDown {
					t.Fatalf("Recover: %d", again)
				}
			}
			d.Fuse(-1)
			if e == api.OK || !alike(d.Image(), held) {
				held = with(held, list...)
			}
			settled(t, "model", d, held)
		}
	}
}
