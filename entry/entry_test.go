package entry

import (
	"bytes"
	"math"
	"math/rand"
	"slices"
	"strconv"
	"strings"
	"testing"

	"copyhold/api"
)

// The document's own bounds, not the program's.
const (
	length   = 32
	longest  = 24
	lastNode = 31
	atNumber = 25
	atTail   = 27
)

// rightNames: what a name may be, the longest and those that are nearly . and .. among them.
func rightNames() []string {
	return []string{"a", "z", "A", "Z", "0", "9", "_", "-", "...", ".a", "a.", "..a", "a..", "-_.", "abc", "a.txt", "ABC-def_0.9", strings.Repeat("x", longest-1), strings.Repeat("x", longest), strings.Repeat(".", longest)}
}

// wrongNames: what it may not be.
func wrongNames() []string {
	return []string{".", "..", "/", "a/b", "/a", "a/", " ", "a b", "a ", "\x00", "a\x00", "\x00a", "a\x00b", "ä", "\xff", "a\xff", "`", "{", "@", "[", ":", "+", ",", "~", "*", strings.Repeat("x", longest+1), strings.Repeat("x", 255), strings.Repeat("x", 256), strings.Repeat("x", 257), strings.Repeat("x", 1<<16)}
}

// wrongNodes: numbers that no entry names, those among them that would be right if bits of them were lost.
func wrongNodes() []int {
	return []int{0, -1, -2, -lastNode, lastNode + 1, lastNode + 2, 64, 255, 256, 257, 1<<16 - 1, 1 << 16, 1<<16 + 5, 1 << 32, 1<<32 + 5, math.MinInt, math.MinInt + 5, math.MaxInt}
}

// slot: an entry by the chapter's words, as far as it fits.
func slot(name string, n int) []byte {
	s := string([]byte{byte(len(name))}) + name + strings.Repeat("\x00", longest-len(name))
	return []byte(s + string([]byte{byte(n % 256), byte(n / 256)}) + "\x00\x00\x00\x00\x00")
}

// isRight: it is sound, and those bytes, which say it again.
func isRight(t *testing.T, r api.Row, want []byte) {
	t.Helper()
	if !Sound(r) {
		t.Errorf("Sound(%v): false", r)
	}
	if b, e := Encode(r); e != api.OK || !bytes.Equal(b, want) {
		t.Errorf("Encode(%v): %q, %d", r, b, e)
	}
	if got, e := Decode(want); e != api.OK || got != r {
		t.Errorf("Decode(%q): %v, %d", want, got, e)
	}
}

// isUnsound: Sound tells so, and Encode too, and nothing else.
func isUnsound(t *testing.T, r api.Row) {
	t.Helper()
	if Sound(r) {
		t.Errorf("Sound(%v): true", r)
	}
	if b, e := Encode(r); len(b) != 0 || e != api.ErrForm {
		t.Errorf("Encode(%v): %q, %d", r, b, e)
	}
}

// isNone: Decode tells that they are no entry, and nothing else.
func isNone(t *testing.T, b []byte) {
	t.Helper()
	if r, e := Decode(b); r != (api.Row{}) || e != api.ErrForm {
		t.Errorf("Decode(%q): %v, %d", b, r, e)
	}
}

// P12.1: entries that are written out here.
func TestEntryWrittenOut(t *testing.T) {
	isRight(t, api.Row{Name: "abc", Node: 31}, []byte("\x03abc\x00\x00\x00\x00\x00\x00\x00\x00\x00\x00\x00\x00\x00\x00\x00\x00\x00\x00\x00\x00\x00\x1f\x00\x00\x00\x00\x00\x00"))
	isRight(t, api.Row{Name: "B", Node: 1}, []byte("\x01B\x00\x00\x00\x00\x00\x00\x00\x00\x00\x00\x00\x00\x00\x00\x00\x00\x00\x00\x00\x00\x00\x00\x00\x01\x00\x00\x00\x00\x00\x00"))
	isRight(t, api.Row{Name: "abcdefghijklmnopqrstuvwx", Node: 16}, []byte("\x18abcdefghijklmnopqrstuvwx\x10\x00\x00\x00\x00\x00\x00"))
}

// P12.1: each right name with each right number, and with wrong ones.
func TestEntryRight(t *testing.T) {
	for _, name := range rightNames() {
		for n := 1; n <= lastNode; n++ {
			isRight(t, api.Row{Name: name, Node: n}, slot(name, n))
		}
		for _, n := range wrongNodes() {
			isUnsound(t, api.Row{Name: name, Node: n})
		}
	}
}

// P12.1: what is no name, with numbers of all kinds.
func TestEntryWrongName(t *testing.T) {
	for _, name := range wrongNames() {
		for _, n := range append(wrongNodes(), 1, 2, lastNode) {
			isUnsound(t, api.Row{Name: name, Node: n})
		}
		if len(name) <= longest {
			for n := range lastNode + 2 {
				isNone(t, slot(name, n))
			}
		}
	}
}

// P12.1: the empty one is not sound, but has bytes, and those say it again; with a number it is none.
func TestEntryEmpty(t *testing.T) {
	if Sound(api.Row{}) {
		t.Error("the empty one is sound")
	}
	if b, e := Encode(api.Row{}); e != api.OK || string(b) != strings.Repeat("\x00", length) {
		t.Errorf("%q, %d", b, e)
	}
	if r, e := Decode(make([]byte, length)); e != api.OK || r != (api.Row{}) {
		t.Errorf("%v, %d", r, e)
	}
	for _, n := range append(wrongNodes(), 1, 2, lastNode) {
		if n != 0 {
			isUnsound(t, api.Row{Node: n})
		}
	}
	for bit := range length * 8 {
		b := make([]byte, length)
		b[bit/8] |= 1 << (bit % 8)
		isNone(t, b)
	}
	isNone(t, bytes.Repeat([]byte{255}, length))
}

// P12.1: each byte may stand in a name, or may not.
func TestEachByte(t *testing.T) {
	const fine = "abcdefghijklmnopqrstuvwxyzABCDEFGHIJKLMNOPQRSTUVWXYZ0123456789._-"
	for c := range 256 {
		name := "n" + string([]byte{byte(c)}) + "m"
		if strings.IndexByte(fine, byte(c)) >= 0 {
			isRight(t, api.Row{Name: name, Node: 7}, slot(name, 7))
		} else {
			isUnsound(t, api.Row{Name: name, Node: 7})
			isNone(t, slot(name, 7))
		}
	}
}

// P12.1: each number that its two bytes have room for.
func TestEachNumber(t *testing.T) {
	for n := range 1 << 16 {
		if n >= 1 && n <= lastNode {
			isRight(t, api.Row{Name: "name", Node: n}, slot("name", n))
		} else {
			isUnsound(t, api.Row{Name: "name", Node: n})
			isNone(t, slot("name", n))
		}
	}
}

// P12.1: each length that its byte has room for, of bytes that are right at one of them alone.
func TestDecodeNameLength(t *testing.T) {
	for _, name := range []string{"a", "abc", strings.Repeat("x", longest-1), strings.Repeat("x", longest)} {
		for n := range 256 {
			b := slot(name, 5)
			b[0] = byte(n)
			if n == len(name) {
				isRight(t, api.Row{Name: name, Node: 5}, b)
			} else {
				isNone(t, b)
			}
		}
	}
}

// P12.1: behind a name, and behind the number, each bit is 0.
func TestDecodeNoughts(t *testing.T) {
	for _, name := range rightNames() {
		for at := range length {
			if at <= len(name) || at == atNumber || at == atNumber+1 {
				continue
			}
			for bit := range 8 {
				b := slot(name, 5)
				b[at] |= 1 << bit
				isNone(t, b)
			}
			b := slot(name, 5)
			b[at] = 'a'
			isNone(t, b)
		}
	}
}

// P12.1: other than EntrySize bytes are no entry.
func TestDecodeLength(t *testing.T) {
	isNone(t, nil)
	for n := range 4 * length {
		if n == length {
			continue
		}
		isNone(t, make([]byte, n))
		isNone(t, append(slot("abc", 5), make([]byte, 4*length)...)[:n])
		isNone(t, bytes.Repeat(slot("abc", 5), 4)[:n])
	}
	isNone(t, make([]byte, 1<<16))
	isNone(t, make([]byte, 0, length))
	isNone(t, slot("abc", 5)[:atTail])
}

// isSlots: Slots answers these.
func isSlots(t *testing.T, b []byte, want []api.Row) {
	t.Helper()
	if l, e := Slots(b); e != api.OK || !slices.Equal(l, want) {
		t.Errorf("Slots(%q): %v, %d", b, l, e)
	}
}

// noSlots: Slots tells that they are none, and nothing else.
func noSlots(t *testing.T, b []byte) {
	t.Helper()
	if l, e := Slots(b); len(l) != 0 || e != api.ErrForm {
		t.Errorf("Slots(%q): %v, %d", b, l, e)
	}
}

// bytesOf: rows by the chapter's words.
func bytesOf(list ...api.Row) []byte {
	var b []byte
	for _, r := range list {
		b = append(b, slot(r.Name, r.Node)...)
	}
	return b
}

// P12.1: all entries, in order; empty ones, of which there may be many, among them; one node may have many names.
func TestSlots(t *testing.T) {
	for _, list := range [][]api.Row{
		nil,
		{{}},
		{{}, {}, {}},
		{{Name: "abc", Node: 31}},
		{{Name: "b", Node: 2}, {Name: "a", Node: 3}, {Name: "c", Node: 1}},
		{{Name: "b", Node: 2}, {}, {Name: "a", Node: 2}, {}, {}},
		{{}, {Name: "x", Node: 2}, {}, {Name: "X", Node: 2}, {Name: "xx", Node: 2}, {Name: "x.", Node: 2}, {Name: "_x", Node: 2}},
	} {
		isSlots(t, bytesOf(list...), list)
	}
	isSlots(t, []byte{}, nil)
}

// P12.1: as many entries as a directory may have, and more.
func TestSlotsMany(t *testing.T) {
	for _, n := range []int{303, 304, 305, 5000} {
		var list []api.Row
		for i := range n {
			if i%5 == 4 {
				list = append(list, api.Row{})
			} else {
				list = append(list, api.Row{Name: "n" + strconv.Itoa(i*7919%n), Node: 1 + i%lastNode})
			}
		}
		isSlots(t, bytesOf(list...), list)
		// The first name once more, behind all others.
		noSlots(t, bytesOf(append(list, api.Row{Name: list[0].Name, Node: 1})...))
	}
}

// P12.1: two with one name, wherever they stand, of one node or of two.
func TestSlotsTwice(t *testing.T) {
	others := []api.Row{{Name: "b", Node: 2}, {}, {Name: "d", Node: 4}, {Name: "a", Node: 5}, {}}
	for _, n := range []int{6, 7} {
		for i := range len(others) + 1 {
			for k := i; k <= len(others); k++ {
				list := slices.Insert(slices.Clone(others), k, api.Row{Name: "c", Node: 6})
				isSlots(t, bytesOf(list...), list)
				noSlots(t, bytesOf(slices.Insert(list, i, api.Row{Name: "c", Node: n})...))
			}
		}
	}
	noSlots(t, bytes.Repeat(slot("abc", 5), 2))
	noSlots(t, bytes.Repeat(slot("abc", 5), 3))
}

// P12.1: a length that is no multiple of EntrySize, with bytes of 0 at the end, too.
func TestSlotsLength(t *testing.T) {
	list := []api.Row{{Name: "a", Node: 1}, {}, {Name: "b", Node: 2}, {}}
	b := bytesOf(list...)
	for n := range len(b) + 1 {
		if n%length == 0 {
			isSlots(t, b[:n], list[:n/length])
		} else {
			noSlots(t, b[:n])
			noSlots(t, make([]byte, n))
		}
	}
}

// P12.1: one that is no entry, at each place.
func TestSlotsWrong(t *testing.T) {
	bad := [][]byte{slot("", 5), slot("a", 0), slot("a", 32), slot("a", 257), slot(".", 5), slot("..", 5), slot("a/b", 5), slot("\x00", 5)}
	for at := range length {
		if at > 1 && at != atNumber {
			b := slot("a", 5)
			b[at] = 255
			bad = append(bad, b)
		}
	}
	right := [][]byte{slot("w", 1), slot("x", 2), make([]byte, length), slot("y", 3)}
	for _, b := range bad {
		for i := range len(right) + 1 {
			noSlots(t, slices.Concat(slices.Insert(slices.Clone(right), i, b)...))
		}
		noSlots(t, b)
	}
}

// P12.2: the first one with that name; none with an empty one, whatever stands there.
func TestFind(t *testing.T) {
	list := []api.Row{{}, {Name: "b", Node: 2}, {Name: "a", Node: 3}, {Node: 4}, {Name: "b", Node: 5}, {Name: "A"}, {Name: "a/b", Node: -1}, {Name: "\x00", Node: 1}, {Name: "\xff", Node: math.MaxInt}}
	for name, want := range map[string]int{"b": 1, "a": 2, "A": 5, "a/b": 6, "\x00": 7, "\xff": 8} {
		if i, ok := Find(list, name); i != want || !ok {
			t.Errorf("Find(%q): %d, %v", name, i, ok)
		}
	}
	for _, name := range []string{"", "B", "ab", "a ", " a", "c", "a\x00", "\x00\x00", ".", strings.Repeat("a", 1<<16)} {
		if i, ok := Find(list, name); i != 0 || ok {
			t.Errorf("Find(%q): %d, %v", name, i, ok)
		}
	}
	if i, ok := Find([]api.Row{{Name: "a"}}, "a"); i != 0 || !ok {
		t.Error("Find at the first place", i, ok)
	}
	for _, none := range [][]api.Row{nil, {}, {{}}, {{Node: 1}}, {{}, {}}} {
		for _, name := range []string{"", "a"} {
			if i, ok := Find(none, name); i != 0 || ok {
				t.Errorf("Find(%v, %q): %d, %v", none, name, i, ok)
			}
		}
	}
}

// P12.2: the first one that is empty, or behind all; one with a name alone, or a number alone, is not empty.
func TestPlace(t *testing.T) {
	full := []api.Row{{Name: "a", Node: 1}, {Node: 1}, {Name: "b"}, {Node: -1}, {Node: math.MinInt}, {Name: "\x00"}, {Name: "a", Node: 1}}
	for n := range len(full) + 1 {
		if i := Place(full[:n]); i != n {
			t.Errorf("Place(%v): %d", full[:n], i)
		}
	}
	for i := range len(full) + 1 {
		one := slices.Insert(slices.Clone(full), i, api.Row{})
		for _, list := range [][]api.Row{one, append(one, api.Row{}), slices.Insert(slices.Clone(one), i, api.Row{})} {
			if n := Place(list); n != i {
				t.Errorf("Place(%v): %d", list, n)
			}
		}
	}
	if Place(nil) != 0 || Place([]api.Row{}) != 0 {
		t.Error("Place of none")
	}
}

// isNames: Names answers these.
func isNames(t *testing.T, list []api.Row, want ...string) {
	t.Helper()
	if l := Names(list); !slices.Equal(l, want) {
		t.Errorf("Names(%v): %q", list, l)
	}
}

// P12.2: all names, rising by bytes, each as often as it is there.
func TestNames(t *testing.T) {
	isNames(t, nil)
	isNames(t, []api.Row{})
	isNames(t, []api.Row{{}, {Node: 5}, {}})
	isNames(t, []api.Row{{Name: "a"}}, "a")
	isNames(t, []api.Row{{Name: "abc", Node: 31}, {}, {Name: "B", Node: 2}}, "B", "abc")
	isNames(t, []api.Row{{Name: "b", Node: 1}, {Name: "ab", Node: 2}, {Node: 9}, {Name: "a", Node: 3}, {Name: "abc"}, {Name: "aa", Node: -4}}, "a", "aa", "ab", "abc", "b")
	isNames(t, []api.Row{{Name: "b", Node: 1}, {Name: "a", Node: 2}, {Name: "b", Node: 3}}, "a", "b", "b")
	isNames(t, []api.Row{{Name: "_"}, {Name: "a"}, {Name: "Z"}, {Name: "9"}, {Name: "10"}, {Name: "-"}, {Name: "..."}, {Name: "\xff"}, {Name: "ä"}, {Name: "\x00"}}, "\x00", "-", "...", "10", "9", "Z", "_", "a", "ä", "\xff")
}

// P12.2: lists of all kinds, by the chapter's words.
func TestListsCounted(t *testing.T) {
	r := rand.New(rand.NewSource(12))
	texts := []string{"", "a", "b", "c", "ab", "."}
	for range 3000 {
		list := make([]api.Row, r.Intn(9))
		count := map[string]int{}
		first := map[string]int{}
		place := len(list)
		for i := range list {
			list[i] = api.Row{Name: texts[r.Intn(len(texts))], Node: r.Intn(3) - 1}
			if count[list[i].Name]++; count[list[i].Name] == 1 {
				first[list[i].Name] = i
			}
			if list[i].Name == "" && list[i].Node == 0 {
				place = min(place, i)
			}
		}
		var names []string
		for _, s := range []string{".", "a", "ab", "b", "c"} {
			names = append(names, slices.Repeat([]string{s}, count[s])...)
			if i, ok := Find(list, s); i != first[s] || ok != (count[s] > 0) {
				t.Errorf("Find(%v, %q): %d, %v", list, s, i, ok)
			}
		}
		isNames(t, list, names...)
		if i, ok := Find(list, ""); i != 0 || ok {
			t.Errorf("Find(%v) of nothing: %d, %v", list, i, ok)
		}
		if n := Place(list); n != place {
			t.Errorf("Place(%v): %d", list, n)
		}
	}
}

// R4: what is handed in is not changed, its spare room included.
func TestHandedIn(t *testing.T) {
	list := []api.Row{{Name: "b", Node: 2}, {}, {Name: "a", Node: 3}, {Name: "a", Node: 4}, {Name: "spare", Node: 1}, {}}
	rows := slices.Clone(list)
	Find(rows[:4], "a")
	Place(rows[:4])
	Names(rows[:4])
	Names(rows)
	if !slices.Equal(rows, list) {
		t.Errorf("rows were changed: %v", rows)
	}
	for _, b := range [][]byte{bytesOf(list[:3]...), bytesOf(list...), bytes.Repeat([]byte{255}, 3*length)} {
		all := append(b, "spare room"...)
		was := bytes.Clone(all)
		Decode(all[:length])
		Slots(all[:3*length])
		Slots(all)
		if !bytes.Equal(all, was) {
			t.Errorf("bytes were changed: %q", all)
		}
	}
}

// spoil: all of a list's room gets another value.
func spoil[T any](list []T, v T) {
	for i := range list[:cap(list)] {
		list[:cap(list)][i] = v
	}
}

// R4, R5: what is answered is new memory each time, and stays what it is when what was handed in is changed.
func TestAnswered(t *testing.T) {
	list := []api.Row{{Name: "b", Node: 2}, {}, {Name: "a", Node: 3}}
	for _, r := range list {
		first, _ := Encode(r)
		spoil(first, 0xA5)
		if b, e := Encode(r); e != api.OK || !bytes.Equal(b, slot(r.Name, r.Node)) {
			t.Errorf("Encode(%v) behind a change of its answer: %q, %d", r, b, e)
		}
	}
	b := bytesOf(list...)
	first, _ := Slots(b)
	spoil(first, api.Row{Name: "spoilt", Node: -1})
	isSlots(t, b, list)
	second, _ := Slots(b)
	one, _ := Decode(b[:length])
	spoil(b, 0xA5)
	if !slices.Equal(second, list) || one != list[0] {
		t.Errorf("behind a change of the bytes: %v, %v", second, one)
	}
	names := Names(list)
	spoil(names, "spoilt")
	isNames(t, list, "a", "b")
}
