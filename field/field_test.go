package field

import (
	"bytes"
	"hash/crc32"
	"math"
	"math/rand"
	"strings"
	"testing"

	"copyhold/api"
)

// The document's own bounds, not the program's.
const (
	highest = 4294967295
	most    = 65535
)

var rightNums = []int{0, 1, 2, 127, 128, 255, 256, 257, 258, 65535, 65536, 1<<24 - 1, 1 << 24, 0x12345678, 1<<31 - 1, 1 << 31, highest - 1, highest}

var wrongNums = []int{-1, -2, -255, -256, -highest, -highest - 1, highest + 1, highest + 2, 1 << 40, 1<<62 + 1, math.MinInt, math.MinInt + 1, math.MaxInt - 1, math.MaxInt}

var wrongTexts = []string{strings.Repeat("x", most+1), strings.Repeat("\x00", most+2), strings.Repeat("ab", most), strings.Repeat("\xff", 1<<20)}

// heads: what may stand ahead of a field.
var heads = []string{"", "x", "\x00", "\xff\x00\x80", "\x01\x00\x00\x00", strings.Repeat("head", 100)}

func rightTexts() []string {
	list := []string{"", "a", "abc", "\x00", "\xff\xfe", "ä€", "\x02\x00ab"}
	for _, n := range []int{127, 128, 255, 256, 257, 32768, most - 1, most} {
		list = append(list, strings.Repeat("t", n), string(noise(n)))
	}
	return list
}

// noise: bytes of all kinds, the same at each call.
func noise(n int) []byte {
	r := rand.New(rand.NewSource(int64(n)))
	b := make([]byte, n)
	r.Read(b)
	return b
}

// numAs: a number's bytes, one by one, without the program's help.
func numAs(n int) string {
	return string([]byte{byte(n % 256), byte(n / 256 % 256), byte(n / 65536 % 256), byte(n / 16777216 % 256)})
}

func textAs(s string) string {
	return string([]byte{byte(len(s) % 256), byte(len(s) / 256)}) + s
}

// frameAs: a frame, its sum from the library.
func frameAs(tag byte, body string) string {
	b := string([]byte{tag, byte(len(body) % 256), byte(len(body) / 256)}) + body
	return b + numAs(int(crc32.ChecksumIEEE([]byte(b))))
}

// roomy: bytes with spare room that has marks of its own; and a call that tells whether all of it is as it was.
func roomy(s string) ([]byte, func() bool) {
	all := append([]byte(s), "spare room, thirty bytes of it"...)
	was := string(all)
	return all[:len(s)], func() bool { return string(all) == was }
}

// spoil: all of a list, its spare room included, becomes something else.
func spoil(b []byte) {
	b = b[:cap(b)]
	for i := range b {
		b[i] ^= 0xA5
	}
}

// short: as far as it is told where a test fails.
func short(s string) string {
	return s[:min(len(s), 40)]
}

func TestNum(t *testing.T) {
	for _, head := range heads {
		for _, n := range rightNums {
			if b, e := Num([]byte(head), n); string(b) != head+numAs(n) || e != api.OK {
				t.Errorf("Num(%q, %d) = %q, %d", short(head), n, short(string(b)), e)
			}
		}
		for _, n := range wrongNums {
			if b, e := Num([]byte(head), n); len(b) != 0 || e != api.ErrRange {
				t.Errorf("Num(%q, %d) = %q, %d", short(head), n, short(string(b)), e)
			}
		}
	}
	if b, e := Num(nil, 0x01020304); string(b) != "\x04\x03\x02\x01" || e != api.OK {
		t.Errorf("%q, %d", b, e)
	}
}

func TestText(t *testing.T) {
	for _, head := range heads {
		for _, s := range rightTexts() {
			if b, e := Text([]byte(head), s); string(b) != head+textAs(s) || e != api.OK {
				t.Errorf("Text(%q, %q of %d) = %q, %d", short(head), short(s), len(s), short(string(b)), e)
			}
		}
		for _, s := range wrongTexts {
			if b, e := Text([]byte(head), s); len(b) != 0 || e != api.ErrRange {
				t.Errorf("Text(%q, %q of %d) = %q, %d", short(head), short(s), len(s), short(string(b)), e)
			}
		}
	}
	if b, e := Text(nil, ""); string(b) != "\x00\x00" || e != api.OK {
		t.Errorf("%q, %d", b, e)
	}
}

func TestReadBack(t *testing.T) {
	var b []byte
	e := api.OK
	for _, n := range rightNums {
		for _, s := range rightTexts() {
			b = b[:0]
			b, e = Num(b, n)
			if e == api.OK {
				b, e = Text(b, s)
			}
			if e == api.OK {
				b, e = Num(b, len(s))
			}
			f := Read(b)
			if e != api.OK || f.Num() != n || f.Text() != s || f.Num() != len(s) || f.End() != api.OK {
				t.Errorf("%d and %q of %d are not read back", n, short(s), len(s))
			}
		}
	}
}

// fields: what is read of bytes, by kinds of fields, and what End tells behind each of them.
type fields struct {
	nums  []int
	texts []string
	ends  []api.Errno
}

func readAll(f *Form, kinds string) fields {
	var got fields
	got.ends = append(got.ends, f.End())
	for _, k := range kinds {
		if k == 'n' {
			got.nums = append(got.nums, f.Num())
		} else {
			got.texts = append(got.texts, f.Text())
		}
		got.ends = append(got.ends, f.End(), f.End())
	}
	return got
}

// modelAll: the same by the chapter's words, field by field.
func modelAll(b, kinds string) fields {
	var got fields
	failed := false
	end := func() api.Errno {
		if failed {
			return api.ErrShort
		} else if b != "" {
			return api.ErrForm
		}
		return api.OK
	}
	got.ends = append(got.ends, end())
	for _, k := range kinds {
		if k == 'n' {
			n := 0
			if failed = failed || len(b) < 4; !failed {
				n = int(b[0]) + 256*int(b[1]) + 65536*int(b[2]) + 16777216*int(b[3])
				b = b[4:]
			}
			got.nums = append(got.nums, n)
		} else {
			s := ""
			if failed = failed || len(b) < 2 || len(b)-2 < int(b[0])+256*int(b[1]); !failed {
				n := 2 + int(b[0]) + 256*int(b[1])
				s, b = b[2:n], b[n:]
			}
			got.texts = append(got.texts, s)
		}
		got.ends = append(got.ends, end(), end())
	}
	return got
}

func sameFields(a, b fields) bool {
	if len(a.nums) != len(b.nums) || len(a.texts) != len(b.texts) || len(a.ends) != len(b.ends) {
		return false
	}
	for i := range a.nums {
		if a.nums[i] != b.nums[i] {
			return false
		}
	}
	for i := range a.texts {
		if a.texts[i] != b.texts[i] {
			return false
		}
	}
	for i := range a.ends {
		if a.ends[i] != b.ends[i] {
			return false
		}
	}
	return true
}

// someKinds: all ways in which up to five fields may be asked for.
func someKinds() []string {
	list := []string{""}
	for i := 0; len(list[i]) < 5; i++ {
		list = append(list, list[i]+"n", list[i]+"t")
	}
	return list
}

func TestFormAsTheWordsSay(t *testing.T) {
	whole := []string{
		numAs(7) + textAs("abc") + numAs(highest) + textAs(""),
		textAs("") + textAs("") + textAs("x") + numAs(0),
		textAs("abcdefgh") + numAs(1<<24),
		"\x04\x00ab", "\xff\xff" + strings.Repeat("y", 20), "\x00\x01" + strings.Repeat("z", 255), "\x00\x01" + strings.Repeat("z", 256),
		"\x01\x00\x00\x00\x00\x00\x00\x00\x00\x00\x00",
		textAs(strings.Repeat("z", most)) + numAs(5),
	}
	for _, all := range whole {
		for i := 0; i <= len(all); i++ {
			if i > 40 && i < len(all)-10 {
				continue
			}
			for _, kinds := range someKinds() {
				if got, want := readAll(Read([]byte(all[:i])), kinds), modelAll(all[:i], kinds); !sameFields(got, want) {
					t.Errorf("%q of %d by %q: %v, not %v", short(all), i, kinds, got.ends, want.ends)
				}
			}
		}
	}
}

// A text whose bytes are missing takes all with it: what would have been a number behind its length is none.
func TestShortLasts(t *testing.T) {
	f := Read([]byte("\x09\x00\x01\x00\x00\x00"))
	if s := f.Text(); s != "" {
		t.Errorf("%q", s)
	}
	for range 5 {
		if n, s, e := f.Num(), f.Text(), f.End(); n != 0 || s != "" || e != api.ErrShort {
			t.Errorf("%d, %q, %d", n, s, e)
		}
	}
	f = Read([]byte("\x00\x00\x00"))
	for range 5 {
		if n, s, e := f.Num(), f.Text(), f.End(); n != 0 || s != "" || e != api.ErrShort {
			t.Errorf("%d, %q, %d", n, s, e)
		}
	}
}

func TestFormOfNothing(t *testing.T) {
	var none *Form
	for range 2 {
		if n, s, e := none.Num(), none.Text(), none.End(); n != 0 || s != "" || e != api.ErrArg {
			t.Errorf("nil: %d, %q, %d", n, s, e)
		}
	}
	for _, f := range []*Form{Read(nil), Read([]byte{}), {}} {
		if f == nil {
			t.Fatal("no Form")
		}
		if e := f.End(); e != api.OK {
			t.Errorf("End %d", e)
		}
		if n, e := f.Num(), f.End(); n != 0 || e != api.ErrShort {
			t.Errorf("%d, %d", n, e)
		}
		if s, e := f.Text(), f.End(); s != "" || e != api.ErrShort {
			t.Errorf("%q, %d", s, e)
		}
	}
}

func TestFormsAreApart(t *testing.T) {
	b := []byte(numAs(1) + numAs(2))
	f, g := Read(b), Read(b)
	if f.Num() != 1 || g.Num() != 1 || f.Num() != 2 || f.Num() != 0 || g.Num() != 2 || g.End() != api.OK || f.End() != api.ErrShort {
		t.Error("one Form went on by another one's hand")
	}
}

func TestSum(t *testing.T) {
	known := map[string]uint32{"": 0, "123456789": 0xCBF43926, "a": 0xE8B7BE43, "\x00": 0xD202EF8D, "\x00\x00\x00\x00": 0x2144DF1C, "\xff\xff\xff\xff": 0xFFFFFFFF}
	for s, want := range known {
		if got := Sum([]byte(s)); got != want {
			t.Errorf("Sum(%q) = %#x", s, got)
		}
	}
	for n := range 256 {
		if b := []byte{byte(n)}; Sum(b) != crc32.ChecksumIEEE(b) {
			t.Errorf("Sum(%q)", b)
		}
	}
	for _, n := range []int{0, 1, 2, 3, 4, 5, 7, 8, 9, 63, 64, 65, 128, 1000, most, most + 1, 1 << 20} {
		if b := noise(n); Sum(b) != crc32.ChecksumIEEE(b) {
			t.Errorf("the sum of %d bytes", n)
		}
	}
	if Sum(nil) != 0 {
		t.Error("the sum of nothing")
	}
}

func TestFrame(t *testing.T) {
	for _, tag := range []byte{0, 1, 'Q', 127, 128, 255} {
		for _, s := range rightTexts() {
			b, e := Frame(tag, []byte(s))
			if string(b) != frameAs(tag, s) || e != api.OK {
				t.Errorf("Frame(%d, %q of %d) = %q, %d", tag, short(s), len(s), short(string(b)), e)
			}
			if got, in, e := Open(b); got != tag || string(in) != s || e != api.OK {
				t.Errorf("Open(Frame(%d, %q of %d)) = %d, %q, %d", tag, short(s), len(s), got, short(string(in)), e)
			}
		}
		for _, s := range wrongTexts {
			if b, e := Frame(tag, []byte(s)); len(b) != 0 || e != api.ErrLarge {
				t.Errorf("Frame(%d, %q of %d) = %q, %d", tag, short(s), len(s), short(string(b)), e)
			}
		}
	}
	if b, e := Frame('x', nil); len(b) != 7 || e != api.OK {
		t.Errorf("%q, %d", b, e)
	}
}

func refused(t *testing.T, b string, want api.Errno) {
	t.Helper()
	if tag, in, e := Open([]byte(b)); tag != 0 || len(in) != 0 || e != want {
		t.Errorf("Open(%q of %d) = %d, %q, %d, not %d", short(b), len(b), tag, short(string(in)), e, want)
	}
}

func TestOpenRefuses(t *testing.T) {
	for _, s := range rightTexts() {
		b := frameAs('Q', s)
		for i := range b {
			if i < 40 || i > len(b)-10 {
				refused(t, b[:i], api.ErrShort)
			}
		}
		refused(t, b+"\x00", api.ErrForm)
		refused(t, b+"\xff", api.ErrForm)
		refused(t, b+b, api.ErrForm)
		for i := range 4 {
			for bit := range 8 {
				c := []byte(b)
				c[len(b)-1-i] ^= 1 << bit
				refused(t, string(c), api.ErrForm)
			}
		}
		if s != "" {
			c := []byte(b)
			c[3] ^= 1
			refused(t, string(c), api.ErrForm)
		}
	}
	refused(t, "", api.ErrShort)
	refused(t, "\xff\xff\xff\xff\xff\xff", api.ErrShort)
	refused(t, "Q\xff\xff\x00\x00\x00\x00", api.ErrShort)
	// Both too short and with another sum: the first one is told.
	refused(t, "Q\x01\x00\x00\x00\x00\x00", api.ErrShort)
	refused(t, "Q\x00\x00\x00\x00\x00\x00", api.ErrForm)
	// With a right sum at its own end, but a length that asks for less: there is more.
	long := "Q\x01\x00ab"
	refused(t, long+numAs(int(crc32.ChecksumIEEE([]byte(long)))), api.ErrForm)
}

// The sum of what is in a frame alone, or with the bytes turned round, is another one.
func TestOpenSumsAllAhead(t *testing.T) {
	refused(t, "Q\x02\x00hi"+numAs(int(crc32.ChecksumIEEE([]byte("hi")))), api.ErrForm)
	sum := numAs(int(crc32.ChecksumIEEE([]byte("Q\x02\x00hi"))))
	refused(t, "Q\x02\x00hi"+string([]byte{sum[3], sum[2], sum[1], sum[0]}), api.ErrForm)
}

// turn: a copy of bytes in which the bits of a pattern are turned from some bit on; false, if there are not so many bits.
func turn(b string, from int, pattern uint32) (string, bool) {
	c := []byte(b)
	for i := range 32 {
		if pattern>>i&1 == 0 {
			continue
		}
		at := from + i
		if at >= 8*len(c) {
			return "", false
		}
		c[at/8] ^= 1 << (at % 8)
	}
	return string(c), true
}

func TestTurnedBitsAreTold(t *testing.T) {
	r := rand.New(rand.NewSource(3))
	for _, s := range []string{"", "h", "hello", string(noise(20)), strings.Repeat("\x00", 12)} {
		b := frameAs('Q', s)
		for from := range 8 * len(b) {
			patterns := []uint32{1, 1<<31 + 1, math.MaxUint32, polynomial, 0xDB710641}
			for p := range uint32(256) {
				patterns = append(patterns, 2*p+1)
			}
			for range 200 {
				patterns = append(patterns, r.Uint32()|1)
			}
			for _, p := range patterns {
				c, ok := turn(b, from, p)
				if !ok {
					continue
				}
				if tag, in, e := Open([]byte(c)); tag != 0 || len(in) != 0 || e == api.OK {
					t.Fatalf("%q, turned from bit %d on by %#x: %d, %q, %d", b, from, p, tag, in, e)
				}
			}
		}
	}
}

func TestArgumentsAreLeft(t *testing.T) {
	for _, s := range append(rightTexts(), wrongTexts...) {
		b, left := roomy(s)
		Num(b, 258)
		Num(b, -1)
		Text(b, "text")
		Text(b, wrongTexts[0])
		Sum(b)
		Frame('Q', b)
		Open(b)
		f := Read(b)
		f.Num()
		f.Text()
		f.End()
		if !left() {
			t.Errorf("%q of %d was changed", short(s), len(s))
		}
		b, left = roomy(frameAs('Q', s[:min(len(s), most)]))
		Open(b)
		if !left() {
			t.Errorf("a frame with %q was changed", short(s))
		}
	}
}

func TestAnswersAreNew(t *testing.T) {
	for _, s := range rightTexts() {
		calls := []func(b []byte) []byte{
			func(b []byte) []byte { n, _ := Num(b, 258); return n },
			func(b []byte) []byte { n, _ := Text(b, "text"); return n },
			func(b []byte) []byte { n, _ := Frame('Q', b); return n },
			func(b []byte) []byte { _, n, _ := Open(b); return n },
		}
		for i, call := range calls {
			given := s
			if i == 3 {
				given = frameAs('Q', s)
			}
			b, left := roomy(given)
			one := call(b)
			two := call(b)
			was := bytes.Clone(two)
			spoil(one)
			if !left() || !bytes.Equal(two, was) {
				t.Errorf("call %d of %q shares memory", i, short(s))
			}
			spoil(b)
			if !bytes.Equal(two, was) {
				t.Errorf("call %d of %q keeps its argument", i, short(s))
			}
		}
	}
}

// A text that was read is what it was, whatever becomes of the bytes.
func TestTextsAreTheirOwn(t *testing.T) {
	b := []byte(textAs("abc"))
	s := Read(b).Text()
	spoil(b)
	if s != "abc" {
		t.Errorf("%q", s)
	}
}
