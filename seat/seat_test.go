package seat

import (
	"bytes"
	"encoding/binary"
	"hash/crc32"
	"math"
	"math/rand"
	"testing"

	"copyhold/api"
)

// The document's own bounds, not the program's.
const (
	size    = 128
	longest = 96
	last    = 1073741824
)

// rightNumbers: numbers that may be there; the ends, and some whose bytes are all others.
var rightNumbers = []int{0, 1, 7, 255, 256, 65535, 65536, 0x01020304, 0x3c2b1a09, last - 1, last}

// wrongNumbers: numbers that may not be there, those among them that would be right if bits of them were lost.
var wrongNumbers = []int{-1, -2, -last, last + 1, last + 2, 1<<31 - 1, 1 << 31, 1<<32 - 1, 1 << 32, 1<<32 + 7, 1<<40 + 7, math.MinInt + 7, math.MinInt, math.MaxInt}

// replies: bytes of every length that may be there.
func replies() [][]byte {
	list := [][]byte{nil}
	for length := range longest + 1 {
		b := make([]byte, length)
		for i := range b {
			b[i] = byte(3*i + length)
		}
		list = append(list, b, make([]byte, length), bytes.Repeat([]byte{255}, length))
	}
	return list
}

// sectorOf: a sector by the chapter's words, whatever the numbers are, and whatever length it tells.
func sectorOf(life, seq uint32, length byte, reply []byte) []byte {
	b := make([]byte, size)
	copy(b, "SEAT")
	binary.LittleEndian.PutUint32(b[4:], life)
	binary.LittleEndian.PutUint32(b[8:], seq)
	b[12] = length
	copy(b[13:size-4], reply)
	return summed(b)
}

// summed: with the right sum at its end.
func summed(b []byte) []byte {
	binary.LittleEndian.PutUint32(b[size-4:], crc32.ChecksumIEEE(b[:size-4]))
	return b
}

// sector: of what is sound.
func sector(s api.Seat) []byte {
	return sectorOf(uint32(s.Life), uint32(s.Seq), byte(len(s.Reply)), s.Reply)
}

// same: do both say the same?
func same(a, b api.Seat) bool {
	return a.Life == b.Life && a.Seq == b.Seq && bytes.Equal(a.Reply, b.Reply)
}

// empty: does it say nothing?
func empty(s api.Seat) bool {
	return same(s, api.Seat{})
}

// isRight: it is sound, and has that sector, which says it again.
func isRight(t *testing.T, s api.Seat) {
	t.Helper()
	if !Sound(s) {
		t.Errorf("Sound(%v): false", s)
	}
	b, e := Encode(s)
	if e != api.OK || !bytes.Equal(b, sector(s)) {
		t.Errorf("Encode(%v): %v, %d", s, b, e)
	}
	got, e := Decode(sector(s))
	if e != api.OK || !same(got, s) {
		t.Errorf("Decode of %v: %v, %d", s, got, e)
	}
}

// isWrong: it is not sound, and has no sector.
func isWrong(t *testing.T, s api.Seat) {
	t.Helper()
	if Sound(s) {
		t.Errorf("Sound(%v): true", s)
	}
	if b, e := Encode(s); len(b) != 0 || e != api.ErrForm {
		t.Errorf("Encode(%v): %v, %d", s, b, e)
	}
}

// isNone: Decode tells that this is no sector of a seat, and nothing else.
func isNone(t *testing.T, what string, b []byte) {
	t.Helper()
	if s, e := Decode(b); !empty(s) || e != api.ErrForm {
		t.Errorf("%s: %v, %d", what, s, e)
	}
}

// P8.1: what is sound, its sector byte by byte, and back.
func TestRight(t *testing.T) {
	for _, life := range rightNumbers {
		for _, seq := range rightNumbers {
			for _, reply := range [][]byte{nil, {}, {0}, []byte("abc"), bytes.Repeat([]byte{7}, longest)} {
				isRight(t, api.Seat{Life: life, Seq: seq, Reply: reply})
			}
		}
	}
	for _, reply := range replies() {
		isRight(t, api.Seat{Life: 3, Seq: 300, Reply: reply})
		isRight(t, api.Seat{Reply: reply})
	}
}

// P8.1: a sector that is written out here, but for its sum.
func TestWrittenOut(t *testing.T) {
	b, e := Encode(api.Seat{Life: 0x01020304, Seq: 1 << 30, Reply: []byte("abc")})
	ahead := "SEAT" + "\x04\x03\x02\x01" + "\x00\x00\x00\x40" + "\x03abc" + string(make([]byte, 108))
	sum := crc32.ChecksumIEEE([]byte(ahead))
	want := ahead + string([]byte{byte(sum), byte(sum >> 8), byte(sum >> 16), byte(sum >> 24)})
	if e != api.OK || string(b) != want {
		t.Errorf("%q, %d", b, e)
	}
}

// P8.1: what is not sound has no sector: Life, Seq, both, or a Reply that is too long.
func TestWrong(t *testing.T) {
	for _, n := range wrongNumbers {
		for _, reply := range [][]byte{nil, []byte("abc"), make([]byte, longest), make([]byte, longest+1)} {
			for _, other := range []int{0, 7, last} {
				isWrong(t, api.Seat{Life: n, Seq: other, Reply: reply})
				isWrong(t, api.Seat{Life: other, Seq: n, Reply: reply})
			}
			isWrong(t, api.Seat{Life: n, Seq: n, Reply: reply})
		}
	}
	for _, length := range []int{longest + 1, longest + 2, 111, 112, 115, 116, 127, 128, 255, 256, 257, 256 + longest, 1 << 16, 1<<16 + 3, 1 << 20} {
		isWrong(t, api.Seat{Reply: make([]byte, length)})
		isWrong(t, api.Seat{Life: 3, Seq: 300, Reply: make([]byte, length)})
		isWrong(t, api.Seat{Life: last, Seq: last, Reply: make([]byte, length)})
	}
}

// P8.1: a sector with a right sum, whose numbers are not sound, is none.
func TestDecodeNumbers(t *testing.T) {
	for _, n := range []uint32{last + 1, last + 7, 1<<31 - 1, 1 << 31, 1<<31 + 7, math.MaxUint32} {
		isNone(t, "Life", sectorOf(n, 0, 0, nil))
		isNone(t, "Life", sectorOf(n, last, 3, []byte("abc")))
		isNone(t, "Seq", sectorOf(0, n, 0, nil))
		isNone(t, "Seq", sectorOf(last, n, 3, []byte("abc")))
		isNone(t, "both", sectorOf(n, n, 3, []byte("abc")))
	}
}

// P8.1: whatever length a sector with a right sum tells: bytes 0 belong to Reply as far as that goes, others behind it make it none.
func TestDecodeLength(t *testing.T) {
	for length := range 256 {
		zeros := sectorOf(3, 300, byte(length), nil)
		if length > longest {
			isNone(t, "too long", zeros)
		} else if s, e := Decode(zeros); e != api.OK || !same(s, api.Seat{Life: 3, Seq: 300, Reply: make([]byte, length)}) {
			t.Errorf("%d bytes 0: %v, %d", length, s, e)
		}
		full := sectorOf(3, 300, byte(length), bytes.Repeat([]byte{1}, size))
		isNone(t, "bytes up to the sum", full)
		over := sectorOf(3, 300, byte(length), bytes.Repeat([]byte{1}, length+1))
		isNone(t, "one byte behind it", over)
	}
}

// P8.1: bytes that are none, though the sum of some is right.
func TestDecodeWrong(t *testing.T) {
	for at := range size - 4 {
		b := sectorOf(7, 9, 3, []byte("abc"))
		b[at] ^= 0x80
		// Another number, or another Reply, that may be there; 0x83 is no length.
		sound := at >= 4 && at < 7 || at >= 8 && at < 11 || at >= 13 && at < 16
		if !sound {
			isNone(t, "a byte that is another one", summed(b))
		} else if s, e := Decode(summed(b)); e != api.OK || !bytes.Equal(sector(s), b) {
			t.Errorf("byte %d: %v, %d", at, s, e)
		}
	}
	big := sectorOf(7, 9, 3, []byte("abc"))
	binary.BigEndian.PutUint32(big[size-4:], crc32.ChecksumIEEE(big[:size-4]))
	short := sectorOf(7, 9, 3, []byte("abc"))
	binary.LittleEndian.PutUint32(short[size-4:], crc32.ChecksumIEEE(short[:16]))
	for _, b := range [][]byte{
		nil, {}, {0}, []byte("SEAT"), make([]byte, size), summed(make([]byte, size)),
		bytes.Repeat([]byte{255}, size), bytes.Repeat([]byte("SEAT"), size/4),
		big, short, make([]byte, 1<<20),
	} {
		isNone(t, "bytes", b)
	}
}

// P8.1: any bit that is turned, and any length but a sector's.
func TestDecodeTurned(t *testing.T) {
	for _, s := range []api.Seat{{}, {Life: 3, Seq: 300, Reply: []byte("abc")}, {Life: last, Seq: last, Reply: bytes.Repeat([]byte{255}, longest)}} {
		for i := range size * 8 {
			b := sector(s)
			b[i/8] ^= 1 << (i % 8)
			isNone(t, "a bit that is turned", b)
		}
		for length := range 2*size + 1 {
			b := append(sector(s), sector(s)...)[:length]
			if length != size {
				isNone(t, "another length", b)
			} else if got, e := Decode(b); !same(got, s) || e != api.OK {
				t.Errorf("Decode of %v: %v, %d", s, got, e)
			}
		}
	}
}

// P8.1: bytes of any kind end, and what is one says just what Encode made of it.
func TestDecodeAny(t *testing.T) {
	r := rand.New(rand.NewSource(8))
	for range 2000 {
		b := make([]byte, size)
		r.Read(b)
		isNone(t, "any bytes", b)
		reply := make([]byte, r.Intn(longest+1))
		r.Read(reply)
		isRight(t, api.Seat{Life: r.Intn(last + 1), Seq: r.Intn(last + 1), Reply: reply})
	}
}

// P8.2: what becomes of a request, by hand.
func TestFate(t *testing.T) {
	s := api.Seat{Life: 3, Seq: 300, Reply: []byte("abc")}
	for _, c := range []struct {
		hello           bool
		life, seq, want int
	}{
		{true, 4, 0, 3}, {true, 4, 299, 3}, {true, 4, 300, 3}, {true, 4, 301, 3}, {true, 5, 0, 3}, {true, last, last, 3}, {true, last, 0, 3},
		{true, 3, 300, 2}, {true, 3, 299, 0}, {true, 3, 301, 0}, {true, 3, 0, 0}, {true, 3, last, 0},
		{true, 2, 300, 0}, {true, 2, 301, 0}, {true, 2, 0, 0}, {true, 1, 300, 0},
		{false, 3, 301, 1}, {false, 3, 302, 1}, {false, 3, last, 1}, {false, 3, 300, 2}, {false, 3, 299, 0}, {false, 3, 0, 0},
		{false, 4, 301, 0}, {false, 4, 300, 0}, {false, 4, 0, 0}, {false, 2, 301, 0}, {false, 2, 300, 0}, {false, last, last, 0},
		{true, 0, 300, 0}, {true, -1, 300, 0}, {true, last + 1, 0, 0}, {true, math.MaxInt, 0, 0}, {true, 4, -1, 0}, {true, 4, last + 1, 0},
		{true, 1<<32 + 4, 0, 0}, {true, 4, 1 << 32, 0}, {true, math.MinInt + 4, 0, 0}, {true, 4, math.MinInt, 0}, {true, 4, math.MaxInt, 0},
		{false, 0, 301, 0}, {false, 3, -1, 0}, {false, 3, last + 1, 0}, {false, 3, math.MaxInt, 0}, {false, 3, math.MinInt, 0},
		{false, 3, 1<<32 + 301, 0}, {false, 1<<32 + 3, 301, 0}, {false, math.MinInt + 3, 301, 0},
	} {
		if n := Fate(s, c.hello, c.life, c.seq); n != c.want {
			t.Errorf("Fate(%v, %t, %d, %d): %d", s, c.hello, c.life, c.seq, n)
		}
	}
}

// P8.2: at a seat where nobody has been, a life that is 0 is passed over, though it is the seat's.
func TestFateNobody(t *testing.T) {
	for _, c := range []struct {
		hello           bool
		life, seq, want int
	}{
		{true, 1, 0, 3}, {true, 1, 9, 3}, {true, last, last, 3}, {true, 0, 0, 0}, {true, 0, 1, 0},
		{false, 0, 0, 0}, {false, 0, 1, 0}, {false, 1, 0, 0}, {false, 1, 1, 0},
	} {
		if n := Fate(api.Seat{}, c.hello, c.life, c.seq); n != c.want {
			t.Errorf("Fate(nobody, %t, %d, %d): %d", c.hello, c.life, c.seq, n)
		}
	}
}

// fateOf: by the chapter's words, one behind the other.
func fateOf(s api.Seat, hello bool, life, seq int) int {
	if life < 1 || life > last || seq < 0 || seq > last {
		return 0
	}
	if hello {
		if life > s.Life {
			return 3
		}
		if life == s.Life && seq == s.Seq {
			return 2
		}
		return 0
	}
	if life == s.Life {
		if seq > s.Seq {
			return 1
		}
		if seq == s.Seq {
			return 2
		}
	}
	return 0
}

// P8.2: all numbers at their ends, in seats that are not sound, too.
func TestFateAny(t *testing.T) {
	numbers := append([]int{2, 3, 4}, append(rightNumbers, wrongNumbers...)...)
	for _, l := range numbers {
		for _, q := range numbers {
			s := api.Seat{Life: l, Seq: q}
			for _, life := range numbers {
				for _, seq := range numbers {
					for _, hello := range []bool{false, true} {
						if n := Fate(s, hello, life, seq); n != fateOf(s, hello, life, seq) {
							t.Fatalf("Fate(%v, %t, %d, %d): %d", s, hello, life, seq, n)
						}
					}
				}
			}
		}
	}
}

// R4: what is handed in is not changed, its spare room included, and what is answered is new memory.
func TestMemory(t *testing.T) {
	reply := append([]byte("abc"), "spare room"...)
	s := api.Seat{Life: 3, Seq: 300, Reply: reply[:3]}
	first, _ := Encode(s)
	Sound(s)
	Fate(s, false, 3, 301)
	if string(reply) != "abcspare room" {
		t.Error("Reply is changed")
	}
	for i := range first[:cap(first)] {
		first[:cap(first)][i] ^= 0xA5
	}
	if second, e := Encode(s); e != api.OK || !bytes.Equal(second, sector(s)) {
		t.Errorf("Encode behind a change of its answer: %v, %d", second, e)
	}
	all := append(sector(s), "spare room"...)
	was := bytes.Clone(all)
	Decode(all[:size-1])
	got, e := Decode(all[:size])
	if e != api.OK || !bytes.Equal(all, was) {
		t.Error("Decode changes what it is given")
	}
	room := got.Reply[:cap(got.Reply)]
	for i := range room {
		room[i] ^= 0xA5
	}
	if !bytes.Equal(all, was) {
		t.Error("what Decode answers shares memory with what it was given")
	}
	if again, e := Decode(all[:size]); e != api.OK || !same(again, s) {
		t.Errorf("Decode behind a change of its answer: %v, %d", again, e)
	}
}
