package store

import (
	"bytes"
	"encoding/binary"
	"hash/crc32"
	"math"
	"math/rand"
	"slices"
	"testing"

	"copyhold/api"
	"copyhold/drive"
	"copyhold/redo"
)

// The document's own bounds, not the program's.
const (
	size     = 128
	fewest   = 64
	most     = 1024
	logSize  = 24
	atSuper  = 0
	atHead   = 1
	atBody   = 2
	atSeats  = 26
	manySeat = 8
	atMarks  = 34
	atNodes  = 35
	manyNode = 32
	atData   = 43
	root     = 1
	last     = 1073741824
)

// summed: bytes, noughts behind them, and the sum of all that as the end of a sector.
func summed(b []byte) []byte {
	s := make([]byte, size)
	copy(s, b)
	binary.LittleEndian.PutUint32(s[size-4:], crc32.ChecksumIEEE(s[:size-4]))
	return s
}

// superOf: a beginning by chapter 7's words, whatever its numbers are.
func superOf(sectors, epoch, gens int) []byte {
	b := []byte("COPY")
	for _, n := range []int{sectors, epoch, gens} {
		b = binary.LittleEndian.AppendUint32(b, uint32(n))
	}
	return summed(b)
}

// seatOf: a seat by chapter 8's words.
func seatOf(life, seq int, reply string) []byte {
	b := []byte("SEAT")
	b = binary.LittleEndian.AppendUint32(b, uint32(life))
	b = binary.LittleEndian.AppendUint32(b, uint32(seq))
	return summed(append(append(b, byte(len(reply))), reply...))
}

// headOf: a head by chapter 6's words.
func headOf(numbers ...int) []byte {
	b := binary.LittleEndian.AppendUint32([]byte("REDO"), uint32(len(numbers)))
	for _, n := range numbers {
		b = binary.LittleEndian.AppendUint16(b, uint16(n))
	}
	return summed(b)
}

// made: by its number, each sector that Make gives bytes of its own, of a drive of so many.
func made(sectors int) map[int][]byte {
	m := map[int][]byte{atSuper: superOf(sectors, 0, 0), atHead: headOf()}
	for n := range manySeat {
		m[atSeats+n] = seatOf(0, 0, "")
	}
	taken := make([]byte, size)
	for n := range atData {
		taken[n/8] |= 1 << (n % 8)
	}
	m[atMarks] = taken
	for n := atNodes; n < atData; n++ {
		m[n] = make([]byte, size)
	}
	copy(m[atNodes][32:], []byte{2, 1}) // Root: Dir, one Link, and nothing else
	return m
}

// is: that is what was answered.
func is(t *testing.T, what string, got, want api.Errno) {
	t.Helper()
	if got != want {
		t.Errorf("%s: %d, want %d", what, got, want)
	}
}

// full: a sector whose bytes are all the same.
func full(b byte) []byte {
	return bytes.Repeat([]byte{b}, size)
}

// blank: a drive as it comes.
func blank(t *testing.T, sectors int) *drive.Drive {
	t.Helper()
	d, e := drive.New(sectors)
	if e != api.OK {
		t.Fatalf("New(%d): %d", sectors, e)
	}
	return d
}

// ready: a drive that was made ready.
func ready(t *testing.T, sectors int) *drive.Drive {
	t.Helper()
	d := blank(t, sectors)
	if e := Make(d); e != api.OK {
		t.Fatalf("Make of %d sectors: %d", sectors, e)
	}
	return d
}

// mounted: the store of a drive.
func mounted(t *testing.T, d *drive.Drive) *Store {
	t.Helper()
	s, e := Mount(d)
	if e != api.OK || s == nil {
		t.Fatalf("Mount: %d", e)
	}
	return s
}

// fresh: a store on a new drive, and that drive.
func fresh(t *testing.T, sectors int) (*Store, *drive.Drive) {
	t.Helper()
	d := ready(t, sectors)
	return mounted(t, d), d
}

// write: a sector is written past all stores, and lasts.
func write(t *testing.T, d *drive.Drive, n int, b []byte) {
	t.Helper()
	if e := d.Put(api.Write{At: n, Data: b}); e != api.OK {
		t.Fatalf("Put of sector %d: %d", n, e)
	}
	if e := d.Flush(); e != api.OK {
		t.Fatalf("Flush: %d", e)
	}
}

// copied: a new drive with these sectors, that lasts.
func copied(t *testing.T, image [][]byte) *drive.Drive {
	t.Helper()
	d := blank(t, len(image))
	for n, b := range image {
		d.Put(api.Write{At: n, Data: b})
	}
	if e := d.Flush(); e != api.OK {
		t.Fatalf("Flush: %d", e)
	}
	return d
}

// differ: the numbers of the sectors in which two drives differ, but for those of the log's body.
func differ(a, b [][]byte) []int {
	var list []int
	for n := range a {
		ofBody := n >= atBody && n < atBody+logSize
		if !ofBody && !bytes.Equal(a[n], b[n]) {
			list = append(list, n)
		}
	}
	return list
}

// powerless: the power of a drive goes.
func powerless(d *drive.Drive) {
	d.Fuse(0)
	d.Flush()
}

// asMade: the drive lasts as Make makes it.
func asMade(t *testing.T, what string, d *drive.Drive) {
	t.Helper()
	image := d.Image()
	for n, want := range made(d.Sectors()) {
		if !bytes.Equal(image[n], want) {
			t.Errorf("%s: sector %d is %x, want %x", what, n, image[n], want)
		}
	}
	now, e := d.Get(atSuper)
	if e != api.OK || !bytes.Equal(now, image[atSuper]) {
		t.Errorf("%s: what lasts is not what is there", what)
	}
}

// P13.1: a drive is made ready, of whatever size, and whatever was on it.
func TestMakeMakesReady(t *testing.T) {
	for _, sectors := range []int{fewest, fewest + 1, 100, 512, most - 1, most} {
		d := blank(t, sectors)
		is(t, "Make", Make(d), api.OK)
		asMade(t, "new", d)
		d.Restart()
		asMade(t, "behind a restart", d)
	}
	for _, b := range []byte{0xff, 0x01, 'R'} {
		d := blank(t, fewest)
		for n := range fewest {
			write(t, d, n, full(b))
		}
		is(t, "Make", Make(d), api.OK)
		asMade(t, "of a drive with bytes", d)
		for n := atData; n < fewest; n++ {
			if got, _ := d.Get(n); !bytes.Equal(got, full(b)) {
				t.Errorf("sector %d of the data is another one", n)
			}
		}
	}
}

// P13.1: nothing of an earlier store is left, nor of what its log has.
func TestMakeAnew(t *testing.T) {
	s, d := fresh(t, fewest)
	s.New(api.File)
	s.Take()
	s.SetSeat(7, api.Seat{Life: 3, Seq: 4, Reply: []byte("abc")})
	is(t, "Commit", s.Commit(), api.OK)
	is(t, "Make", Make(d), api.OK)
	asMade(t, "of a store", d)
	for _, head := range [][]byte{headOf(0, 26, 34, 35, 43), headOf(fewest), headOf(50, most-1), full(9)} {
		d := ready(t, fewest)
		for n := range logSize {
			write(t, d, atBody+n, full(byte(n+1)))
		}
		write(t, d, atHead, head)
		is(t, "Make", Make(d), api.OK)
		asMade(t, "of a log with something left", d)
	}
}

func TestMakeErrors(t *testing.T) {
	is(t, "Make(nil)", Make(nil), api.ErrArg)
	d := ready(t, fewest)
	powerless(d)
	is(t, "Make without power", Make(d), api.ErrDown)
	d.Restart()
	asMade(t, "nothing was done", d)
	if e := Make(&drive.Drive{}); e == api.OK {
		t.Error("a drive without sectors was made ready")
	}
}

// chosen: which of the writes last, by a way of choosing.
func chosen(way int, r *rand.Rand) []int {
	keep := make([]int, 64)
	for i := range keep {
		switch way {
		case 1:
			keep[i] = 1
		case 2:
			keep[i] = i % 2
		case 3:
			keep[i] = 1 - i%2
		case 4, 5:
			keep[i] = r.Intn(2)
		}
	}
	return keep
}

// P13.1: a Make that is cut off makes the drive ready as a whole, or not at all, and can be done again.
func TestMakeCutOff(t *testing.T) {
	r := rand.New(rand.NewSource(13))
	used, d := fresh(t, fewest)
	used.New(api.Dir)
	used.SetSeat(0, api.Seat{Life: 1, Seq: 1})
	used.Commit()
	old := d.Image()
	// One whose store was cut off in a Commit: the sector is written half, but the log has it.
	left := slices.Clone(old)
	left[60], left[atBody], left[atHead] = full(1), old[60], headOf(60)
	for kind, image := range [][][]byte{blank(t, fewest).Image(), old, left} {
		for way := range 6 {
			for fuse, done := 0, false; !done; fuse++ {
				d := copied(t, image)
				d.Fuse(fuse)
				e := Make(d)
				if done = e == api.OK; !done {
					is(t, "Make", e, api.ErrDown)
				}
				d.Restart(chosen(way, r)...)
				s, e := Mount(d)
				switch {
				case e == api.OK && s.Super() == (api.Super{Sectors: fewest, Epoch: 1}):
					is(t, "Root", errnoOf(s.Node(root)), api.OK)
					write(t, d, atSuper, superOf(fewest, 0, 0))
					asMade(t, "as a whole", d)
				case done:
					t.Errorf("%d, %d: Mount: %d, behind a Make that was OK", kind, fuse, e)
				case kind == 0:
					is(t, "Mount of a drive that is not ready", e, api.ErrForm)
				default:
					is(t, "Mount of the old one", e, api.OK)
					write(t, d, atSuper, old[atSuper])
					if list := differ(d.Image(), old); list != nil {
						t.Errorf("%d: the old store has other sectors %v", fuse, list)
					}
				}
				is(t, "Make again", Make(d), api.OK)
				asMade(t, "again", d)
			}
		}
	}
}

// errnoOf: of what was answered the error alone.
func errnoOf[T any](_ T, e api.Errno) api.Errno {
	return e
}

// P13.1: a Mount counts one Epoch more, and that lasts; nothing else changes.
func TestMountCounts(t *testing.T) {
	for _, sectors := range []int{fewest, 777, most} {
		d := ready(t, sectors)
		before := d.Image()
		for epoch := 1; epoch < 5; epoch++ {
			s := mounted(t, d)
			if got, want := s.Super(), (api.Super{Sectors: sectors, Epoch: epoch}); got != want {
				t.Errorf("Super: %v, want %v", got, want)
			}
			d.Restart()
			image := d.Image()
			if !bytes.Equal(image[atSuper], superOf(sectors, epoch, 0)) {
				t.Errorf("%d: sector 0 is %x", epoch, image[atSuper])
			}
			if list := differ(before, image); !slices.Equal(list, []int{atSuper}) {
				t.Errorf("%d: other sectors are %v", epoch, list)
			}
		}
	}
}

// unmounted: Mount answers that error, and no store, and writes nothing.
func unmounted(t *testing.T, what string, d *drive.Drive, want api.Errno) {
	t.Helper()
	before := d.Image()
	d.Fuse(0) // so that the first write would be told by ErrDown
	s, e := Mount(d)
	if s != nil {
		t.Errorf("%s: a store beside an error", what)
	}
	is(t, what, e, want)
	d.Restart()
	for n, b := range d.Image() {
		if !bytes.Equal(b, before[n]) {
			t.Errorf("%s: sector %d was written", what, n)
		}
	}
}

// turned: a sector with one bit of it turned.
func turned(b []byte, bit int) []byte {
	b = bytes.Clone(b)
	b[bit/8] ^= 1 << (bit % 8)
	return b
}

func TestMountErrors(t *testing.T) {
	unmounted(t, "nil", nil, api.ErrArg)
	unmounted(t, "new", blank(t, fewest), api.ErrForm)
	unmounted(t, "without sectors", &drive.Drive{}, api.ErrForm)
	d := ready(t, fewest)
	powerless(d)
	s, e := Mount(d)
	if s != nil {
		t.Error("a store without power")
	}
	is(t, "without power", e, api.ErrDown)
	type fault struct {
		what string
		at   int
		data []byte
	}
	wrong := []fault{
		{"no head", atHead, full(0)},
		{"a head with a number that is no sector", atHead, headOf(fewest)},
		{"no super", atSuper, full(0)},
		{"a super with a bit turned", atSuper, turned(superOf(fewest, 0, 0), 70)},
		{"a super of fewer sectors", atSuper, superOf(fewest-1, 0, 0)},
		{"a super of more sectors", atSuper, superOf(fewest+1, 0, 0)},
		{"a super with too great an epoch", atSuper, superOf(fewest, last+1, 0)},
		{"a super with too many given", atSuper, superOf(fewest, 0, last+1)},
	}
	for n := range manySeat {
		at := atSeats + n
		wrong = append(wrong, fault{"no seat", at, full(0)}, fault{"a seat with a bit turned", at, turned(seatOf(0, 0, ""), 1000)})
	}
	for _, c := range wrong {
		d := ready(t, fewest)
		write(t, d, c.at, c.data)
		unmounted(t, c.what, d, api.ErrForm)
		write(t, d, atSuper, superOf(fewest, last, 0))
		if c.at != atSuper {
			unmounted(t, c.what+", ahead of ErrFull", d, api.ErrForm)
		}
	}
	for _, c := range []int{fewest + 1, most} {
		d := ready(t, c)
		write(t, d, atSuper, superOf(fewest, 0, 0))
		unmounted(t, "a super of a smaller drive", d, api.ErrForm)
	}
}

// P13.1: a drive is ready whatever its map and its nodes are.
func TestMountOfTheRest(t *testing.T) {
	d := ready(t, fewest)
	for _, n := range []int{atMarks, atNodes, atNodes + 7, atData, fewest - 1} {
		write(t, d, n, full(0xee))
	}
	mounted(t, d)
}

func TestMountAtTheEnd(t *testing.T) {
	d := ready(t, fewest)
	write(t, d, atSuper, superOf(fewest, last-1, last))
	s := mounted(t, d)
	if got, want := s.Super(), (api.Super{Sectors: fewest, Epoch: last, Gens: last}); got != want {
		t.Errorf("Super: %v, want %v", got, want)
	}
	d.Restart()
	unmounted(t, "the last epoch", d, api.ErrFull)
}

// P13.1: what a Commit that was cut off has left is done ahead of all else, and told.
func TestMountRecovers(t *testing.T) {
	d := ready(t, fewest)
	write(t, d, atBody, seatOf(5, 6, "x"))
	write(t, d, atBody+1, full(0x77))
	write(t, d, atBody+2, superOf(fewest, 41, 3))
	write(t, d, atHead, headOf(atSeats+2, 60, atSuper))
	s := mounted(t, d)
	if got, want := s.Super(), (api.Super{Sectors: fewest, Epoch: 42, Gens: 3}); got != want {
		t.Errorf("Super: %v, want %v", got, want)
	}
	x, e := s.Seat(2)
	if e != api.OK || x.Life != 5 || x.Seq != 6 || string(x.Reply) != "x" {
		t.Errorf("Seat: %v, %d", x, e)
	}
	b, e := s.Get(60)
	if e != api.OK || !bytes.Equal(b, full(0x77)) {
		t.Errorf("Get: %x, %d", b, e)
	}
	if image := d.Image(); !bytes.Equal(image[60], full(0x77)) || !bytes.Equal(image[atHead], headOf()) {
		t.Error("that does not last")
	}
}

// P13.1: of a Mount that is cut off the Epoch is one more, or as it was.
func TestMountCutOff(t *testing.T) {
	r := rand.New(rand.NewSource(31))
	for way := range 6 {
		for fuse, done := 0, false; !done; fuse++ {
			d := ready(t, fewest)
			mounted(t, d)
			d.Fuse(fuse)
			s, e := Mount(d)
			if done = e == api.OK; !done {
				is(t, "Mount", e, api.ErrDown)
				if s != nil {
					t.Error("a store beside an error")
				}
			}
			d.Restart(chosen(way, r)...)
			epoch := mounted(t, d).Super().Epoch
			if epoch != 3 && (done || epoch != 2) {
				t.Errorf("%d: Epoch %d, done %t", fuse, epoch, done)
			}
		}
	}
}

// calls: all calls of a store that answer an error, with arguments that are right.
func calls(s *Store) map[string]func() api.Errno {
	return map[string]func() api.Errno{
		"Get":     func() api.Errno { b, e := s.Get(50); return zero(b == nil, e) },
		"Put":     func() api.Errno { return s.Put(50, full(1)) },
		"Node":    func() api.Errno { x, e := s.Node(1); return zero(x == api.Node{}, e) },
		"SetNode": func() api.Errno { return s.SetNode(5, api.Node{}) },
		"New":     func() api.Errno { n, e := s.New(api.File); return zero(n == 0, e) },
		"Seat":    func() api.Errno { x, e := s.Seat(1); return zero(x.Life == 0 && x.Seq == 0 && len(x.Reply) == 0, e) },
		"SetSeat": func() api.Errno { return s.SetSeat(5, api.Seat{}) },
		"Take":    func() api.Errno { n, e := s.Take(); return zero(n == 0, e) },
		"Give":    func() api.Errno { return s.Give(50) },
		"Commit":  func() api.Errno { return s.Commit() },
	}
}

// wrongCalls: likewise, with arguments that are wrong.
func wrongCalls(s *Store) map[string]func() api.Errno {
	return map[string]func() api.Errno{
		"Get(-1)":     func() api.Errno { return errnoOf(s.Get(-1)) },
		"Put(1)":      func() api.Errno { return s.Put(1, nil) },
		"Put short":   func() api.Errno { return s.Put(50, nil) },
		"Node(-1)":    func() api.Errno { return errnoOf(s.Node(-1)) },
		"SetNode(32)": func() api.Errno { return s.SetNode(32, api.Node{}) },
		"SetNode":     func() api.Errno { return s.SetNode(3, api.Node{Kind: 7}) },
		"New(3)":      func() api.Errno { return errnoOf(s.New(3)) },
		"Seat(8)":     func() api.Errno { return errnoOf(s.Seat(8)) },
		"SetSeat(-1)": func() api.Errno { return s.SetSeat(-1, api.Seat{}) },
		"SetSeat":     func() api.Errno { return s.SetSeat(0, api.Seat{Life: -1}) },
		"Give(0)":     func() api.Errno { return s.Give(0) },
	}
}

// zero: the error, if what stands beside it is nothing.
func zero(nothing bool, e api.Errno) api.Errno {
	if e != api.OK && !nothing {
		return -1
	}
	return e
}

// allAnswer: every call answers that error, whatever it is given, and nothing beside it.
func allAnswer(t *testing.T, what string, s *Store, want api.Errno) {
	t.Helper()
	for name, call := range calls(s) {
		is(t, what+": "+name, call(), want)
	}
	for name, call := range wrongCalls(s) {
		is(t, what+": "+name, call(), want)
	}
	if s.Super() != (api.Super{}) || s.Free() != 0 {
		t.Errorf("%s: Super %v, Free %d", what, s.Super(), s.Free())
	}
	s.Drop()
	is(t, what+": Get behind Drop", errnoOf(s.Get(50)), want)
}

func TestNilStore(t *testing.T) {
	allAnswer(t, "nil", nil, api.ErrArg)
	allAnswer(t, "without a drive", &Store{}, api.ErrArg)
}

// Once a call answered ErrDown all do, behind a restart of the drive, too.
func TestDown(t *testing.T) {
	for fuse := range 8 {
		s, d := fresh(t, fewest)
		is(t, "Put", s.Put(50, full(1)), api.OK)
		is(t, "Put", s.Put(51, full(2)), api.OK)
		d.Fuse(fuse)
		is(t, "Commit", s.Commit(), api.ErrDown)
		allAnswer(t, "without power", s, api.ErrDown)
		d.Restart()
		allAnswer(t, "behind a restart", s, api.ErrDown)
	}
}

// Whichever call finds first that the power is gone, all later ones answer so.
func TestDownByAnyCall(t *testing.T) {
	for _, name := range []string{"Get", "Node", "SetNode", "New", "Seat", "Take", "Give"} {
		s, d := fresh(t, fewest)
		powerless(d)
		is(t, name, calls(s)[name](), api.ErrDown)
		allAnswer(t, "behind "+name, s, api.ErrDown)
		d.Restart()
		allAnswer(t, "behind "+name+" and a restart", s, api.ErrDown)
	}
	s, d := fresh(t, fewest)
	is(t, "Put", s.Put(50, full(1)), api.OK)
	powerless(d)
	is(t, "Get of a sector that was put", errnoOf(s.Get(50)), api.ErrDown)
}

// P13.2: sectors are told as they would be; the drive is as it was till Commit.
func TestGetPut(t *testing.T) {
	s, d := fresh(t, fewest)
	before := d.Image()
	right := []int{0, 26, 33, 34, 35, 42, 43, 44, fewest - 1}
	for i, n := range right {
		is(t, "Put", s.Put(n, full(byte(i+1))), api.OK)
	}
	for n := range fewest {
		want := before[n]
		if i := slices.Index(right, n); i >= 0 {
			want = full(byte(i + 1))
		}
		if b, e := s.Get(n); e != api.OK || !bytes.Equal(b, want) {
			t.Errorf("Get(%d): %x, %d", n, b, e)
		}
		if b, e := d.Get(n); e != api.OK || !bytes.Equal(b, before[n]) {
			t.Errorf("the drive's sector %d: %x, %d", n, b, e)
		}
	}
	is(t, "Put", s.Put(43, full(99)), api.OK)
	if b, _ := s.Get(43); !bytes.Equal(b, full(99)) {
		t.Errorf("the last Put does not hold: %x", b)
	}
}

func TestGetErrors(t *testing.T) {
	s, _ := fresh(t, 100)
	for _, n := range []int{-1, 100, 101, most, 1 << 40, math.MinInt, math.MaxInt} {
		b, e := s.Get(n)
		is(t, "Get", e, api.ErrRange)
		if len(b) != 0 {
			t.Errorf("Get(%d): bytes beside an error", n)
		}
	}
}

func TestPutErrors(t *testing.T) {
	s, _ := fresh(t, 100)
	for _, n := range []int{-1, 100, 101, most, 1 << 40, 1<<32 + 50, math.MinInt, math.MaxInt, 1, 2, 3, 24, 25} {
		is(t, "Put", s.Put(n, full(1)), api.ErrRange)
		is(t, "Put, ahead of ErrArg", s.Put(n, nil), api.ErrRange)
	}
	for _, b := range [][]byte{nil, {}, make([]byte, 1), make([]byte, size-1), make([]byte, size+1), make([]byte, 2*size)} {
		is(t, "Put of a wrong length", s.Put(50, b), api.ErrArg)
	}
	fillUp(t, s, logSize)
	is(t, "ErrArg ahead of ErrLarge", s.Put(50, nil), api.ErrArg)
	is(t, "ErrRange ahead of ErrLarge", s.Put(1, full(1)), api.ErrRange)
	is(t, "Put", s.Put(50, full(1)), api.ErrLarge)
}

// fillUp: so many sectors will be others, none of them one that a node, a seat or the map lies in, or that is taken first.
func fillUp(t *testing.T, s *Store, count int) {
	t.Helper()
	for n := range count {
		is(t, "Put", s.Put(60+n, full(byte(n))), api.OK)
	}
}

// P13.2: LogSize sectors may be changed, whatever bytes they had; the same one counts once.
func TestLarge(t *testing.T) {
	s, _ := fresh(t, 100)
	for range 3 {
		for n := range logSize {
			b, _ := s.Get(60 + n)
			is(t, "Put of the same bytes", s.Put(60+n, b), api.OK)
		}
	}
	for name, call := range map[string]func() api.Errno{
		"Put":     func() api.Errno { return s.Put(59, full(0)) },
		"SetNode": func() api.Errno { return s.SetNode(9, api.Node{Kind: api.File, Links: 1}) },
		"SetSeat": func() api.Errno { return s.SetSeat(3, api.Seat{Life: 1}) },
		"New":     func() api.Errno { n, e := s.New(api.Dir); return zero(n == 0, e) },
		"Take":    func() api.Errno { n, e := s.Take(); return zero(n == 0, e) },
		"Give":    func() api.Errno { return s.Give(90) },
	} {
		is(t, name, call(), api.ErrLarge)
	}
	if s.Free() != 57 || s.Super().Gens != 0 {
		t.Errorf("something was done beside an error: %d free, %v", s.Free(), s.Super())
	}
	is(t, "Put once more", s.Put(60, full(3)), api.OK)
	is(t, "Commit", s.Commit(), api.OK)
	is(t, "Put behind Commit", s.Put(59, full(0)), api.OK)
	s.Drop()
	fillUp(t, s, logSize)
	is(t, "Put", s.Put(59, full(0)), api.ErrLarge)
	s.Drop()
	fillUp(t, s, logSize)
}

// P13.3: what changes two sectors needs room for both, or for the one that is not changed yet, and is done as a whole or not at all.
func TestLargeOfTwo(t *testing.T) {
	type what struct {
		name  string
		first int // a sector that it changes
		other int // and the other one
		call  func(s *Store) (int, api.Errno)
		want  int
	}
	for _, c := range []what{
		{"New", atSuper, atNodes, func(s *Store) (int, api.Errno) { return s.New(api.File) }, 2},
		{"Take", atMarks, atData, func(s *Store) (int, api.Errno) { return s.Take() }, atData},
	} {
		for _, ahead := range [][]int{nil, {c.first}, {c.other}, {c.first, c.other}} {
			for used := logSize - 3; used <= logSize; used++ {
				s, _ := fresh(t, 100)
				for _, n := range ahead {
					b, _ := s.Get(n)
					is(t, "Put", s.Put(n, b), api.OK)
				}
				fillUp(t, s, used-len(ahead))
				n, e := c.call(s)
				if used+2-len(ahead) <= logSize {
					if e != api.OK || n != c.want {
						t.Errorf("%s, %d used, with %v: %d, %d", c.name, used, ahead, n, e)
					}
					continue
				}
				if e != api.ErrLarge || n != 0 {
					t.Errorf("%s, %d used, with %v: %d, %d, want ErrLarge", c.name, used, ahead, n, e)
				}
				if x, _ := s.Node(2); s.Super().Gens != 0 || x != (api.Node{}) || s.Free() != 57 {
					t.Errorf("%s: something was done beside ErrLarge", c.name)
				}
				fillUp(t, s, used-len(ahead))
				for n := range logSize - used {
					is(t, c.name+": room is left as it was", s.Put(90+n, full(1)), api.OK)
				}
				is(t, c.name+": and no more", s.Put(99, full(1)), api.ErrLarge)
			}
		}
	}
}

// P13.2: nodes, each at its place, as they would be.
func TestNodes(t *testing.T) {
	s, d := fresh(t, fewest)
	for n := range manyNode {
		want := api.Node{}
		if n == root {
			want = api.Node{Kind: api.Dir, Links: 1}
		}
		if x, e := s.Node(n); e != api.OK || x != want {
			t.Errorf("Node(%d): %v, %d", n, x, e)
		}
	}
	nodes := make([]api.Node, manyNode)
	for n := range nodes {
		nodes[n] = api.Node{Kind: api.File, Links: n + 1, Gen: last - n, Size: 300 * n, Change: 7 * n, One: 43 + n, Two: 1023 - n}
		nodes[n].Direct = [4]int{100 + n, 200 + n, 300 + n, 400 + n}
		is(t, "SetNode", s.SetNode(n, nodes[n]), api.OK)
	}
	for _, when := range []string{"ahead of Commit", "behind it"} {
		for n := range nodes {
			if x, e := s.Node(n); e != api.OK || x != nodes[n] {
				t.Errorf("%s: Node(%d): %v, %d", when, n, x, e)
			}
			b, _ := s.Get(atNodes + n/4)
			if b[n%4*32+1] != byte(n+1) {
				t.Errorf("%s: node %d is not at its place", when, n)
			}
		}
		is(t, "Commit", s.Commit(), api.OK)
	}
	d.Restart()
	if x, e := mounted(t, d).Node(31); e != api.OK || x != nodes[31] {
		t.Errorf("Node(31): %v, %d", x, e)
	}
}

func TestNodeErrors(t *testing.T) {
	s, _ := fresh(t, fewest)
	bad := api.Node{Kind: 9}
	for _, n := range []int{-1, -4, manyNode, manyNode + 1, 1 << 32, math.MinInt, math.MaxInt} {
		x, e := s.Node(n)
		is(t, "Node", zero(x == api.Node{}, e), api.ErrRange)
		is(t, "SetNode", s.SetNode(n, api.Node{}), api.ErrRange)
		is(t, "SetNode, ahead of ErrForm", s.SetNode(n, bad), api.ErrRange)
	}
	for _, x := range []api.Node{bad, {Kind: api.File}, {Kind: api.Dir, Links: 2}, {Links: 1}, {Gen: -1}, {Kind: api.File, Links: 1, One: 42}} {
		is(t, "SetNode", s.SetNode(5, x), api.ErrForm)
	}
	if x, e := s.Node(5); e != api.OK || x != (api.Node{}) {
		t.Errorf("Node(5): %v, %d", x, e)
	}
	is(t, "Put", s.Put(atNodes+1, append(make([]byte, size-32), bytes.Repeat([]byte{9}, 32)...)), api.OK)
	for n := 4; n < 8; n++ {
		want := api.OK
		if n == 7 {
			want = api.ErrForm
		}
		x, e := s.Node(n)
		is(t, "Node of a sector with one that is none", zero(x == api.Node{}, e), want)
	}
	is(t, "SetNode over it", s.SetNode(7, api.Node{Gen: 1}), api.OK)
	is(t, "Node", errnoOf(s.Node(7)), api.OK)
	s.Drop()
	for n := range logSize {
		is(t, "Put", s.Put(atNodes+2+n, full(0)), api.OK) // not the first nodes' sector
	}
	is(t, "SetNode, ErrForm ahead of ErrLarge", s.SetNode(3, bad), api.ErrForm)
	is(t, "SetNode", s.SetNode(3, api.Node{}), api.ErrLarge)
}

// P13.2: seats, each in its sector, as they would be.
func TestSeats(t *testing.T) {
	s, d := fresh(t, fewest)
	for n := range manySeat {
		if x, e := s.Seat(n); e != api.OK || x.Life != 0 || x.Seq != 0 || len(x.Reply) != 0 {
			t.Errorf("Seat(%d): %v, %d", n, x, e)
		}
		is(t, "SetSeat", s.SetSeat(n, api.Seat{Life: n, Seq: last - n, Reply: full(byte(n))[:96-n]}), api.OK)
	}
	for _, when := range []string{"ahead of Commit", "behind it"} {
		for n := range manySeat {
			x, e := s.Seat(n)
			if e != api.OK || x.Life != n || x.Seq != last-n || !bytes.Equal(x.Reply, full(byte(n))[:96-n]) {
				t.Errorf("%s: Seat(%d): %v, %d", when, n, x, e)
			}
			b, _ := s.Get(atSeats + n)
			if !bytes.Equal(b, seatOf(n, last-n, string(full(byte(n))[:96-n]))) {
				t.Errorf("%s: sector %d: %x", when, atSeats+n, b)
			}
		}
		is(t, "Commit", s.Commit(), api.OK)
	}
	d.Restart()
	if x, e := mounted(t, d).Seat(7); e != api.OK || x.Life != 7 {
		t.Errorf("Seat(7): %v, %d", x, e)
	}
}

func TestSeatErrors(t *testing.T) {
	s, _ := fresh(t, fewest)
	bad := api.Seat{Life: -1}
	for _, n := range []int{-1, -26, manySeat, manySeat + 1, 1 << 32, math.MinInt, math.MaxInt} {
		is(t, "Seat", errnoOf(s.Seat(n)), api.ErrRange)
		is(t, "SetSeat", s.SetSeat(n, api.Seat{}), api.ErrRange)
		is(t, "SetSeat, ahead of ErrForm", s.SetSeat(n, bad), api.ErrRange)
	}
	for _, x := range []api.Seat{bad, {Seq: -1}, {Life: last + 1}, {Seq: last + 1}, {Reply: make([]byte, 97)}} {
		is(t, "SetSeat", s.SetSeat(5, x), api.ErrForm)
	}
	is(t, "Put", s.Put(atSeats+5, full(3)), api.OK)
	x, e := s.Seat(5)
	is(t, "Seat that is none", zero(x.Life == 0 && x.Seq == 0 && len(x.Reply) == 0, e), api.ErrForm)
	is(t, "Seat beside it", errnoOf(s.Seat(4)), api.OK)
	is(t, "SetSeat over it", s.SetSeat(5, api.Seat{Seq: 1}), api.OK)
	is(t, "Seat", errnoOf(s.Seat(5)), api.OK)
	s.Drop()
	for n := range logSize {
		is(t, "Put", s.Put(40+n, full(0)), api.OK)
	}
	is(t, "SetSeat, ErrForm ahead of ErrLarge", s.SetSeat(3, bad), api.ErrForm)
	is(t, "SetSeat", s.SetSeat(3, api.Seat{}), api.ErrLarge)
}

// P13.2: the beginning is told as it would be.
func TestSuper(t *testing.T) {
	s, _ := fresh(t, fewest)
	for _, want := range []api.Super{{Sectors: fewest, Epoch: 5, Gens: 6}, {Sectors: most, Epoch: last, Gens: last}} {
		is(t, "Put", s.Put(atSuper, superOf(want.Sectors, want.Epoch, want.Gens)), api.OK)
		if got := s.Super(); got != want {
			t.Errorf("Super: %v, want %v", got, want)
		}
	}
	is(t, "Put", s.Put(atSuper, full(1)), api.OK)
	if got := s.Super(); got != (api.Super{}) {
		t.Errorf("Super of what is none: %v", got)
	}
	if n, e := s.New(api.File); n != 0 || e == api.OK {
		t.Errorf("New without a super: %d, %d", n, e)
	}
	s.Drop()
	if got, want := s.Super(), (api.Super{Sectors: fewest, Epoch: 1}); got != want {
		t.Errorf("Super: %v, want %v", got, want)
	}
}

// P13.3: nodes are given by their numbers, rising, each with a Gen of its own.
func TestNew(t *testing.T) {
	s, d := fresh(t, fewest)
	for n := 2; n < manyNode; n++ {
		kind := api.File + n%2
		got, e := s.New(kind)
		if e != api.OK || got != n {
			t.Errorf("New: %d, %d, want %d", got, e, n)
		}
		if x, e := s.Node(n); e != api.OK || x != (api.Node{Kind: kind, Links: 1, Gen: n - 1, Change: 1}) {
			t.Errorf("Node(%d): %v, %d", n, x, e)
		}
		if got, want := s.Super(), (api.Super{Sectors: fewest, Epoch: 1, Gens: n - 1}); got != want {
			t.Errorf("Super: %v, want %v", got, want)
		}
	}
	n, e := s.New(api.File)
	is(t, "New", zero(n == 0, e), api.ErrFull)
	if x, _ := s.Node(0); x != (api.Node{}) {
		t.Errorf("node 0 was given: %v", x)
	}
	is(t, "Commit", s.Commit(), api.OK)
	is(t, "New behind Commit", errnoOf(s.New(api.Dir)), api.ErrFull)
	is(t, "SetNode", s.SetNode(17, api.Node{Gen: 16, Change: 9}), api.OK)
	is(t, "SetNode", s.SetNode(9, api.Node{Gen: 8, Change: 4}), api.OK)
	for _, want := range []int{9, 17} {
		if n, e := s.New(api.Dir); e != api.OK || n != want {
			t.Errorf("New: %d, %d, want %d", n, e, want)
		}
	}
	if x, _ := s.Node(9); x != (api.Node{Kind: api.Dir, Links: 1, Gen: 31, Change: 5}) {
		t.Errorf("Node(9): %v", x)
	}
	if x, _ := s.Node(17); x != (api.Node{Kind: api.Dir, Links: 1, Gen: 32, Change: 10}) {
		t.Errorf("Node(17): %v", x)
	}
	is(t, "Commit", s.Commit(), api.OK)
	d.Restart()
	if got := mounted(t, d).Super().Gens; got != 32 {
		t.Errorf("Gens behind a restart: %d", got)
	}
}

func TestNewErrors(t *testing.T) {
	s, _ := fresh(t, fewest)
	for _, kind := range []int{0, -1, 3, 257, 1<<32 + 1, math.MinInt, math.MaxInt} {
		n, e := s.New(kind)
		is(t, "New", zero(n == 0, e), api.ErrArg)
	}
	is(t, "Put", s.Put(atSuper, superOf(fewest, 1, last)), api.OK)
	is(t, "New, ErrArg ahead of ErrFull", errnoOf(s.New(0)), api.ErrArg)
	n, e := s.New(api.File)
	is(t, "New of the last Gen's next", zero(n == 0, e), api.ErrFull)
	if x, _ := s.Node(2); x != (api.Node{}) {
		t.Errorf("Node(2): %v", x)
	}
	for n := range logSize {
		s.Put(40+n, full(0))
	}
	is(t, "New, ErrFull ahead of ErrLarge", errnoOf(s.New(api.File)), api.ErrFull)
	is(t, "New, ErrArg ahead of ErrLarge", errnoOf(s.New(3)), api.ErrArg)
}

// P13.3: Gen and Change at their ends.
func TestNewAtTheEnd(t *testing.T) {
	s, _ := fresh(t, fewest)
	s.Put(atSuper, superOf(fewest, 1, last-1))
	for _, c := range []struct{ was, want int }{{last, last}, {last - 1, last}, {last - 2, last - 1}} {
		s.Put(atSuper, superOf(fewest, 1, last-1))
		is(t, "SetNode", s.SetNode(2, api.Node{Gen: 5, Change: c.was}), api.OK)
		n, e := s.New(api.File)
		x, _ := s.Node(2)
		if e != api.OK || n != 2 || x != (api.Node{Kind: api.File, Links: 1, Gen: last, Change: c.want}) {
			t.Errorf("New: %d, %d, %v", n, e, x)
		}
		if s.Super().Gens != last {
			t.Errorf("Gens: %d", s.Super().Gens)
		}
		is(t, "New", errnoOf(s.New(api.File)), api.ErrFull)
	}
}

// P13.3: a node that is none is not free, and left as it is.
func TestNewPassesOver(t *testing.T) {
	s, _ := fresh(t, fewest)
	b, _ := s.Get(atNodes)
	copy(b[64:], full(9)[:32])
	is(t, "Put", s.Put(atNodes, b), api.OK)
	if n, e := s.New(api.File); e != api.OK || n != 3 {
		t.Errorf("New: %d, %d", n, e)
	}
	if got, _ := s.Get(atNodes); !bytes.Equal(got[:96], b[:96]) {
		t.Errorf("the nodes ahead of it are others: %x", got)
	}
	is(t, "Node", errnoOf(s.Node(2)), api.ErrForm)
}

// P13.3: sectors are taken from the least one on, with bytes 0, and given back.
func TestTakeGive(t *testing.T) {
	for _, sectors := range []int{fewest, 100, most} {
		d := ready(t, sectors)
		for n := atData; n < sectors; n++ {
			write(t, d, n, full(0xaa))
		}
		s := mounted(t, d)
		for n := atData; n < sectors; n++ {
			if got := s.Free(); got != sectors-n {
				t.Fatalf("Free: %d, want %d", got, sectors-n)
			}
			got, e := s.Take()
			if e != api.OK || got != n {
				t.Fatalf("Take: %d, %d, want %d", got, e, n)
			}
			if b, e := s.Get(n); e != api.OK || !bytes.Equal(b, full(0)) {
				t.Errorf("Get(%d): %x, %d", n, b, e)
			}
			if b, _ := s.Get(atMarks); b[n/8]&(1<<(n%8)) == 0 {
				t.Errorf("%d is not marked", n)
			}
			if n%9 == 0 {
				is(t, "Commit", s.Commit(), api.OK)
			}
		}
		is(t, "Commit", s.Commit(), api.OK)
		n, e := s.Take()
		is(t, "Take of none", zero(n == 0, e), api.ErrSpace)
		if s.Free() != 0 {
			t.Errorf("Free: %d", s.Free())
		}
		for _, n := range []int{sectors - 1, 50, atData} {
			is(t, "Give", s.Give(n), api.OK)
		}
		if s.Free() != 3 {
			t.Errorf("Free: %d, want 3", s.Free())
		}
		for _, want := range []int{atData, 50, sectors - 1} {
			if n, e := s.Take(); e != api.OK || n != want {
				t.Errorf("Take: %d, %d, want %d", n, e, want)
			}
		}
	}
}

func TestGiveErrors(t *testing.T) {
	s, _ := fresh(t, fewest)
	wrong := []int{-1, 0, 1, 25, 26, atMarks, atData - 1, fewest, fewest + 1, most - 1, most, 1<<32 + 50, math.MinInt, math.MaxInt}
	for _, n := range wrong {
		is(t, "Give", s.Give(n), api.ErrRange)
	}
	if s.Free() != 21 {
		t.Errorf("Free: %d", s.Free())
	}
	fillAll := func() {
		for n := range logSize {
			s.Put(40+n, full(0))
		}
	}
	fillAll()
	is(t, "Give, ErrRange ahead of ErrLarge", s.Give(0), api.ErrRange)
	is(t, "Give", s.Give(50), api.ErrLarge)
	s.Drop()
	is(t, "Put", s.Put(atMarks, full(0xff)), api.OK)
	is(t, "Commit", s.Commit(), api.OK)
	fillAll()
	is(t, "Take, ErrSpace ahead of ErrLarge", errnoOf(s.Take()), api.ErrSpace)
}

// P13.3: Give puts the map, whatever it had; what the sector has stays, and one that was put stays so.
func TestGivePutsTheMap(t *testing.T) {
	s, _ := fresh(t, 100)
	fillUp(t, s, logSize-1)
	is(t, "Give of a free one", s.Give(90), api.OK)
	is(t, "Put of one more", s.Put(59, full(1)), api.ErrLarge)
	is(t, "Put of the map", s.Put(atMarks, full(0)), api.OK)
	s.Drop()
	n, _ := s.Take()
	is(t, "Put", s.Put(n, full(7)), api.OK)
	is(t, "Give", s.Give(n), api.OK)
	if b, _ := s.Get(n); !bytes.Equal(b, full(7)) || s.Free() != 57 {
		t.Errorf("Get(%d): %x; %d free", n, b, s.Free())
	}
	fillUp(t, s, logSize-2)
	is(t, "Put of one more", s.Put(59, full(1)), api.ErrLarge)
	if again, e := s.Take(); e != api.OK || again != n {
		t.Errorf("Take: %d, %d, want %d", again, e, n)
	}
	if b, _ := s.Get(n); !bytes.Equal(b, full(0)) {
		t.Errorf("Get(%d): %x", n, b)
	}
}

// P13.3: marks of sectors that the drive does not have count for nothing.
func TestMarksBehindTheEnd(t *testing.T) {
	s, _ := fresh(t, fewest)
	b := full(0xff)
	for n := fewest; n < most; n++ {
		b[n/8] &^= 1 << (n % 8)
	}
	b[60/8] &^= 1 << (60 % 8)
	is(t, "Put", s.Put(atMarks, b), api.OK)
	if s.Free() != 1 {
		t.Errorf("Free: %d", s.Free())
	}
	if n, e := s.Take(); e != api.OK || n != 60 {
		t.Errorf("Take: %d, %d", n, e)
	}
	is(t, "Take", errnoOf(s.Take()), api.ErrSpace)
	b = full(0xff)
	b[50/8] &^= 1 << (50 % 8)
	is(t, "Put", s.Put(atMarks, b), api.OK)
	if s.Free() != 1 {
		t.Errorf("Free, with all marked that the drive does not have: %d", s.Free())
	}
	is(t, "Put", s.Put(atMarks, full(0)), api.OK)
	if n, e := s.Take(); e != api.OK || n != atData {
		t.Errorf("Take of a map without marks: %d, %d", n, e)
	}
}

// P13.4: Commit makes all of it so, and that lasts; Drop leaves nothing.
func TestCommitDrop(t *testing.T) {
	s, d := fresh(t, fewest)
	before := d.Image()
	s.New(api.File)
	s.Take()
	s.Put(63, full(8))
	s.SetSeat(1, api.Seat{Life: 1})
	s.Drop()
	if list := differ(d.Image(), before); list != nil {
		t.Errorf("Drop: other sectors are %v", list)
	}
	for n := range fewest {
		if b, e := s.Get(n); e != api.OK || !bytes.Equal(b, before[n]) {
			t.Errorf("Get(%d) behind Drop: %x, %d", n, b, e)
		}
	}
	is(t, "Commit of nothing", s.Commit(), api.OK)
	want := slices.Clone(before)
	for _, n := range []int{63, 43, 33, 0} {
		want[n] = full(byte(n + 1))
		is(t, "Put", s.Put(n, want[n]), api.OK)
	}
	is(t, "Commit", s.Commit(), api.OK)
	for range 2 {
		if list := differ(d.Image(), want); list != nil {
			t.Errorf("Commit: other sectors are %v", list)
		}
		for n := atSeats; n < fewest; n++ {
			if b, e := s.Get(n); e != api.OK || !bytes.Equal(b, want[n]) {
				t.Errorf("Get(%d) behind Commit: %x, %d", n, b, e)
			}
		}
		s.Drop()
	}
}

// P13.4: where nothing was changed, or what was has been committed or dropped, nothing is written.
func TestCommitOfNothing(t *testing.T) {
	s, d := fresh(t, fewest)
	s.Put(50, full(1))
	is(t, "Commit", s.Commit(), api.OK)
	s.Put(51, full(1))
	s.Drop()
	d.Fuse(0)
	is(t, "Commit", s.Commit(), api.OK)
	is(t, "Flush, at which the power goes", d.Flush(), api.ErrDown)
}

// P13.4: a sector that was put with the bytes that it had is committed, too.
func TestCommitOfTheSame(t *testing.T) {
	s, d := fresh(t, fewest)
	b, _ := s.Get(50)
	s.Put(50, b)
	d.Fuse(0)
	is(t, "Commit", s.Commit(), api.ErrDown)
}

// P13.4: as many sectors as a log holds.
func TestCommitOfAsManyAsThereMay(t *testing.T) {
	s, d := fresh(t, 100)
	fillUp(t, s, logSize)
	is(t, "Commit", s.Commit(), api.OK)
	image := d.Image()
	for n := range logSize {
		if !bytes.Equal(image[60+n], full(byte(n))) {
			t.Errorf("sector %d: %x", 60+n, image[60+n])
		}
	}
}

// P13.4: whenever the power goes, and whatever lasts, all of it is so, or none.
func TestCommitCutOff(t *testing.T) {
	r := rand.New(rand.NewSource(14))
	for _, count := range []int{1, 2, 5, logSize} {
		for way := range 6 {
			for fuse, done := 0, false; !done; fuse++ {
				s, d := fresh(t, 100)
				before := d.Image()
				after := slices.Clone(before)
				for i := range count {
					n := 40 + 2*i
					after[n] = full(byte(i + 1))
					is(t, "Put", s.Put(n, after[n]), api.OK)
				}
				d.Fuse(fuse)
				e := s.Commit()
				if done = e == api.OK; !done {
					is(t, "Commit", e, api.ErrDown)
				}
				d.Restart(chosen(way, r)...)
				u, e := Mount(d)
				is(t, "Mount", e, api.OK)
				if got, want := u.Super(), (api.Super{Sectors: 100, Epoch: 2}); got != want {
					t.Errorf("Super: %v, want %v", got, want)
				}
				image := d.Image()
				image[atSuper] = before[atSuper]
				none, all := differ(image, before), differ(image, after)
				if all != nil && (done || none != nil) {
					t.Fatalf("%d of %d sectors, fuse %d: neither all nor none", len(none), count, fuse)
				}
			}
		}
	}
}

// R4: nothing that is handed in is changed or kept, and nothing that is answered is shared.
func TestMemory(t *testing.T) {
	s, d := fresh(t, fewest)
	room := make([]byte, size, size+8)
	copy(room, full(5))
	is(t, "Put", s.Put(50, room), api.OK)
	room[0] = 77
	a, _ := s.Get(50)
	b, _ := s.Get(50)
	if !bytes.Equal(a, full(5)) {
		t.Error("what was handed in is kept")
	}
	a[1] = 88
	_ = append(a, 1)
	if c, _ := s.Get(50); !bytes.Equal(b, full(5)) || !bytes.Equal(c, full(5)) {
		t.Error("answers share memory")
	}
	is(t, "Commit", s.Commit(), api.OK)
	c, _ := s.Get(50)
	c[0] = 99
	if got, _ := d.Get(50); !bytes.Equal(got, full(5)) {
		t.Error("an answer is the drive's own memory")
	}
	x := api.Seat{Life: 1, Reply: []byte("abc")}
	is(t, "SetSeat", s.SetSeat(0, x), api.OK)
	x.Reply[0] = 'z'
	y, _ := s.Seat(0)
	y.Reply[1] = 'z'
	if z, _ := s.Seat(0); string(z.Reply) != "abc" {
		t.Errorf("a seat's reply is shared: %s", z.Reply)
	}
	if !bytes.Equal(room[:size+8][size:], make([]byte, 8)) {
		t.Error("spare room was written")
	}
}

// Two stores, on two drives, have nothing in common.
func TestApart(t *testing.T) {
	s, _ := fresh(t, fewest)
	u, _ := fresh(t, fewest)
	s.Put(50, full(1))
	if b, _ := u.Get(50); !bytes.Equal(b, full(0)) {
		t.Error("one store has what was put to another one")
	}
}

// The same calls write the same sectors in the same order, however a map is gone through.
func TestSameOrder(t *testing.T) {
	var first [][]byte
	for range 20 {
		s, d := fresh(t, 100)
		for i := range logSize {
			s.Put(40+(7*i)%logSize, full(byte(i)))
		}
		d.Fuse(30)
		is(t, "Commit", s.Commit(), api.ErrDown)
		d.Restart(1, 0, 1, 0, 1)
		image := d.Image()
		if first == nil {
			first = image
		}
		if !slices.EqualFunc(first, image, bytes.Equal) {
			t.Fatal("another order")
		}
	}
}

// model: what a store should be, kept in the simplest way: all sectors as they are, and as they would be.
type model struct {
	now, will [][]byte
	put       map[int]bool
}

// room: is there room for these sectors to be changed?
func (m *model) room(list ...int) bool {
	count := len(m.put)
	for _, n := range list {
		if !m.put[n] {
			count++
		}
	}
	return count <= logSize
}

// set: a sector would be another one.
func (m *model) set(n int, b []byte) {
	m.will[n] = bytes.Clone(b)
	m.put[n] = true
}

// least: the least number from one up to, but not at, another one that is not marked, or 0.
func (m *model) least(from, to int) int {
	for n := from; n < to; n++ {
		if m.will[atMarks][n/8]>>(n%8)&1 == 0 {
			return n
		}
	}
	return 0
}

// mark: the map, if a number were marked or not.
func (m *model) mark(n int, on bool) []byte {
	b := bytes.Clone(m.will[atMarks])
	b[n/8] &^= 1 << (n % 8)
	if on {
		b[n/8] |= 1 << (n % 8)
	}
	return b
}

// step: one call at random, of the store and of the model.
func (m *model) step(t *testing.T, s *Store, r *rand.Rand) {
	t.Helper()
	switch r.Intn(12) {
	case 0, 1, 2:
		n := m.least(atData, len(m.will))
		want := api.OK
		switch {
		case n == 0:
			want = api.ErrSpace
		case !m.room(atMarks, n):
			n, want = 0, api.ErrLarge
		default:
			m.set(atMarks, m.mark(n, true))
			m.set(n, full(0))
		}
		if got, e := s.Take(); got != n || e != want {
			t.Fatalf("Take: %d, %d, want %d, %d", got, e, n, want)
		}
	case 3, 4:
		n := atData - 2 + r.Intn(len(m.will)-atData+4)
		want := api.OK
		switch {
		case n < atData || n >= len(m.will):
			want = api.ErrRange
		case !m.room(atMarks):
			want = api.ErrLarge
		default:
			m.set(atMarks, m.mark(n, false))
		}
		is(t, "Give", s.Give(n), want)
	case 5, 6, 7:
		n, b := atData+r.Intn(len(m.will)-atData), full(byte(r.Intn(256)))
		want := api.OK
		if m.room(n) {
			m.set(n, b)
		} else {
			want = api.ErrLarge
		}
		is(t, "Put", s.Put(n, b), want)
	case 8:
		n, life := r.Intn(manySeat), r.Intn(1000)
		want := api.OK
		if m.room(atSeats + n) {
			m.set(atSeats+n, seatOf(life, 0, "hi"))
		} else {
			want = api.ErrLarge
		}
		is(t, "SetSeat", s.SetSeat(n, api.Seat{Life: life, Reply: []byte("hi")}), want)
	case 9:
		n, gen := r.Intn(manyNode), r.Intn(256)
		want := api.OK
		if at := atNodes + n/4; m.room(at) {
			b := bytes.Clone(m.will[at])
			copy(b[n%4*32:], append([]byte{0, 0, byte(gen)}, make([]byte, 29)...))
			m.set(at, b)
		} else {
			want = api.ErrLarge
		}
		is(t, "SetNode", s.SetNode(n, api.Node{Gen: gen}), want)
	case 10:
		is(t, "Commit", s.Commit(), api.OK)
		m.now, m.put = slices.Clone(m.will), map[int]bool{}
	case 11:
		s.Drop()
		m.will, m.put = slices.Clone(m.now), map[int]bool{}
	}
}

// P13.2 to P13.4, one behind the other at random, against the model.
func TestAgainstModel(t *testing.T) {
	for seed := range int64(40) {
		r := rand.New(rand.NewSource(seed))
		sectors := fewest + r.Intn(40)
		s, d := fresh(t, sectors)
		image := d.Image()
		m := &model{now: image, will: slices.Clone(image), put: map[int]bool{}}
		for range 400 {
			m.step(t, s, r)
			free := 0
			for n := atData; n < sectors; n++ {
				if m.will[atMarks][n/8]>>(n%8)&1 == 0 {
					free++
				}
			}
			if got := s.Free(); got != free {
				t.Fatalf("Free: %d, want %d", got, free)
			}
			if n := atSeats + r.Intn(sectors-atSeats); !bytes.Equal(bytesOf(s.Get(n)), m.will[n]) {
				t.Fatalf("Get(%d) is not as it would be", n)
			}
		}
		if list := differ(d.Image(), m.now); list != nil {
			t.Fatalf("%d: the drive has other sectors %v", seed, list)
		}
	}
}

// bytesOf: of what was answered the bytes alone.
func bytesOf(b []byte, _ api.Errno) []byte {
	return b
}

// What a store commits is what redo finds nothing left of.
func TestLogIsEmptyBehindCommit(t *testing.T) {
	s, d := fresh(t, fewest)
	s.Put(50, full(1))
	is(t, "Commit", s.Commit(), api.OK)
	d.Fuse(0)
	is(t, "Recover", redo.Recover(d), api.OK)
	b, _ := d.Get(atHead)
	if list, e := redo.Heads(b); e != api.OK || len(list) != 0 {
		t.Errorf("Heads: %v, %d", list, e)
	}
}
