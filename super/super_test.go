package super

import (
	"bytes"
	"encoding/binary"
	"hash/crc32"
	"math"
	"math/rand"
	"testing"

	"copyhold/api"
)

// The document's own bounds, not the program's.
const (
	size   = 128
	fewest = 64
	most   = 1024
	last   = 1073741824
)

// rightSectors, rightCounts: numbers that may be there; the ends, and some whose bytes are all others.
var (
	rightSectors = []int{fewest, fewest + 1, 100, 255, 256, 513, most - 1, most}
	rightCounts  = []int{0, 1, 7, 255, 256, 65535, 65536, 0x01020304, 0x3c2b1a09, last - 1, last}
)

// wrongSectors, wrongCounts: numbers that may not be there, those among them that would be right if bits of them were lost.
var (
	wrongSectors = []int{fewest - 1, most + 1, 0, 1, -1, -fewest, -100, 1<<16 + 100, 1<<32 + 100, 1<<63 - 1<<32 + 100, math.MinInt + 100, math.MinInt, math.MaxInt, last}
	wrongCounts  = []int{-1, -2, -last, last + 1, last + 2, 1<<31 - 1, 1 << 31, 1<<32 - 1, 1 << 32, 1<<32 + 7, 1<<40 + 7, math.MinInt + 7, math.MinInt, math.MaxInt}
)

// sectorOf: a sector by the chapter's words, whatever the numbers are.
func sectorOf(sectors, epoch, gens uint32) []byte {
	b := make([]byte, size)
	copy(b, "COPY")
	binary.LittleEndian.PutUint32(b[4:], sectors)
	binary.LittleEndian.PutUint32(b[8:], epoch)
	binary.LittleEndian.PutUint32(b[12:], gens)
	return summed(b)
}

// summed: with the right sum at its end.
func summed(b []byte) []byte {
	binary.LittleEndian.PutUint32(b[size-4:], crc32.ChecksumIEEE(b[:size-4]))
	return b
}

// sector: of what is sound.
func sector(s api.Super) []byte {
	return sectorOf(uint32(s.Sectors), uint32(s.Epoch), uint32(s.Gens))
}

// right: all that is sound, of those numbers.
func right() []api.Super {
	var list []api.Super
	for _, sectors := range rightSectors {
		for _, epoch := range rightCounts {
			for _, gens := range rightCounts {
				list = append(list, api.Super{Sectors: sectors, Epoch: epoch, Gens: gens})
			}
		}
	}
	return list
}

// wrong: what is not sound: one number, two, or all three of them.
func wrong() []api.Super {
	list := []api.Super{{}, {Epoch: 7, Gens: 7}, {Sectors: -1, Epoch: -1, Gens: -1}, {Sectors: most + 1, Epoch: last + 1, Gens: last + 1}}
	for _, n := range wrongSectors {
		list = append(list, api.Super{Sectors: n}, api.Super{Sectors: n, Epoch: 7, Gens: last}, api.Super{Sectors: n, Epoch: -1})
	}
	for _, n := range wrongCounts {
		for _, sectors := range []int{fewest, 100, most} {
			list = append(list,
				api.Super{Sectors: sectors, Epoch: n}, api.Super{Sectors: sectors, Epoch: n, Gens: last},
				api.Super{Sectors: sectors, Gens: n}, api.Super{Sectors: sectors, Epoch: last, Gens: n},
				api.Super{Sectors: sectors, Epoch: n, Gens: n})
		}
	}
	return list
}

// isNone: Decode tells that this is no sector of a super, and nothing else.
func isNone(t *testing.T, what string, b []byte) {
	t.Helper()
	if s, e := Decode(b); s != (api.Super{}) || e != api.ErrForm {
		t.Errorf("%s: %v, %d", what, s, e)
	}
}

// P7.1: what is sound, its sector byte by byte, and back.
func TestRight(t *testing.T) {
	for _, s := range right() {
		if !Sound(s) {
			t.Errorf("Sound(%v): false", s)
		}
		b, e := Encode(s)
		if e != api.OK || !bytes.Equal(b, sector(s)) {
			t.Errorf("Encode(%v): %v, %d", s, b, e)
		}
		got, e := Decode(sector(s))
		if e != api.OK || got != s {
			t.Errorf("Decode of %v: %v, %d", s, got, e)
		}
	}
}

// P7.1: a sector that is written out here, but for its sum.
func TestWrittenOut(t *testing.T) {
	b, e := Encode(api.Super{Sectors: 1023, Epoch: 0x01020304, Gens: 1 << 30})
	ahead := "COPY" + "\xff\x03\x00\x00" + "\x04\x03\x02\x01" + "\x00\x00\x00\x40" + string(make([]byte, 108))
	sum := crc32.ChecksumIEEE([]byte(ahead))
	want := ahead + string([]byte{byte(sum), byte(sum >> 8), byte(sum >> 16), byte(sum >> 24)})
	if e != api.OK || string(b) != want {
		t.Errorf("%q, %d", b, e)
	}
}

// P7.1: each number of sectors, from below the fewest to above the most.
func TestSectors(t *testing.T) {
	for n := range most + fewest {
		s := api.Super{Sectors: n, Epoch: 3, Gens: 5}
		sound := n >= fewest && n <= most
		_, e := Encode(s)
		got, f := Decode(sector(s))
		if Sound(s) != sound || (e == api.OK) != sound || (f == api.OK) != sound || sound && got != s {
			t.Errorf("%d: %t, %d, %v, %d", n, Sound(s), e, got, f)
		}
	}
}

// P7.1: what is not sound has no sector.
func TestWrong(t *testing.T) {
	for _, s := range wrong() {
		if Sound(s) {
			t.Errorf("Sound(%v): true", s)
		}
		if b, e := Encode(s); len(b) != 0 || e != api.ErrForm {
			t.Errorf("Encode(%v): %v, %d", s, b, e)
		}
	}
}

// P7.1: a sector with a right sum, whose numbers are not sound, is none.
func TestDecodeNumbers(t *testing.T) {
	for _, n := range []uint32{0, 1, fewest - 1, most + 1, 1<<16 + 100, 1<<24 + 100, 1 << 31, 1<<31 + 100, math.MaxUint32} {
		isNone(t, "Sectors", sectorOf(n, 0, 0))
		isNone(t, "Sectors", sectorOf(n, 7, last))
	}
	for _, n := range []uint32{last + 1, 1<<31 - 1, 1 << 31, 1<<31 + 7, math.MaxUint32} {
		isNone(t, "Epoch", sectorOf(100, n, 0))
		isNone(t, "Gens", sectorOf(100, 0, n))
		isNone(t, "both", sectorOf(100, n, n))
	}
}

// P7.1: bytes that are none, though the sum of some is right.
func TestDecodeWrong(t *testing.T) {
	for at := range size - 4 {
		b := sectorOf(100, 7, 9)
		b[at] ^= 0xA0
		sound := at == 4 || at >= 8 && at < 11 || at >= 12 && at < 15 // another number that may be there
		if !sound {
			isNone(t, "a byte that is another one", summed(b))
		} else if s, e := Decode(summed(b)); e != api.OK || !bytes.Equal(sector(s), b) {
			t.Errorf("byte %d: %v, %d", at, s, e)
		}
	}
	big := sectorOf(100, 7, 9)
	binary.BigEndian.PutUint32(big[size-4:], crc32.ChecksumIEEE(big[:size-4]))
	short := sectorOf(100, 7, 9)
	binary.LittleEndian.PutUint32(short[size-4:], crc32.ChecksumIEEE(short[:16]))
	swapped := make([]byte, size)
	copy(swapped, "COPY")
	binary.BigEndian.PutUint32(swapped[4:], 100)
	for _, b := range [][]byte{
		nil, {}, {0}, []byte("COPY"), make([]byte, size), summed(make([]byte, size)),
		bytes.Repeat([]byte{255}, size), bytes.Repeat([]byte("COPY"), size/4),
		big, short, summed(swapped), make([]byte, 1<<20),
	} {
		isNone(t, "bytes", b)
	}
}

// P7.1: any bit that is turned, and any length but a sector's.
func TestDecodeTurned(t *testing.T) {
	for _, s := range []api.Super{{Sectors: fewest}, {Sectors: 100, Epoch: 7, Gens: 9}, {Sectors: most, Epoch: last, Gens: last}} {
		for i := range size * 8 {
			b := sector(s)
			b[i/8] ^= 1 << (i % 8)
			isNone(t, "a bit that is turned", b)
		}
		for length := range 2*size + 1 {
			b := append(sector(s), sector(s)...)[:length]
			if length != size {
				isNone(t, "another length", b)
			} else if got, e := Decode(b); got != s || e != api.OK {
				t.Errorf("Decode of %v: %v, %d", s, got, e)
			}
		}
	}
}

// P7.1: bytes of any kind end, and what is one says just what Encode made of it.
func TestDecodeAny(t *testing.T) {
	r := rand.New(rand.NewSource(7))
	for range 2000 {
		b := make([]byte, size)
		r.Read(b)
		isNone(t, "any bytes", b)
		s := api.Super{Sectors: fewest + r.Intn(most-fewest+1), Epoch: r.Intn(last + 1), Gens: r.Intn(last + 1)}
		if got, e := Decode(sector(s)); got != s || e != api.OK {
			t.Errorf("Decode of %v: %v, %d", s, got, e)
		}
	}
}

// R4: what is handed in is not changed, its spare room included, and what is answered is new memory.
func TestMemory(t *testing.T) {
	s := api.Super{Sectors: 100, Epoch: 7, Gens: 9}
	all := append(sector(s), "spare room"...)
	was := bytes.Clone(all)
	Decode(all[:size])
	Decode(all[:size-1])
	if !bytes.Equal(all, was) {
		t.Error("Decode changes what it is given")
	}
	first, _ := Encode(s)
	for i := range first[:cap(first)] {
		first[:cap(first)][i] ^= 0xA5
	}
	if second, e := Encode(s); e != api.OK || !bytes.Equal(second, sector(s)) {
		t.Errorf("Encode behind a change of its answer: %v, %d", second, e)
	}
}
