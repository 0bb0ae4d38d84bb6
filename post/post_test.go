package post

import (
	"bytes"
	"math"
	"math/rand"
	"slices"
	"testing"

	"copyhold/api"
)

// The document's own bound, not the program's.
const most = 64

// wrongPlaces: no letter is there, however many there are; those among them that would be right if bits of them were lost.
var wrongPlaces = []int{-1, -2, -most, most, most + 1, 128, 256, 1 << 16, 1 << 31, 1 << 32, 1<<32 + 1, math.MinInt, math.MinInt + 1, math.MaxInt}

// letter: no two numbers have the same one.
func letter(n int) api.Letter {
	return api.Letter{From: n % 9, To: (n + 1) % 9, Data: []byte{byte(n), byte(n >> 8), 7}}
}

// same: are they the same letters, in the same order?
func same(a, b []api.Letter) bool {
	return slices.EqualFunc(a, b, equal)
}

// equal: are they the same letter? Bytes that are none are the same, nil or empty.
func equal(a, b api.Letter) bool {
	return a.From == b.From && a.To == b.To && bytes.Equal(a.Data, b.Data)
}

// are: just these are on the way.
func are(t *testing.T, p *Post, want []api.Letter) {
	t.Helper()
	if got := p.Letters(); !same(got, want) {
		t.Fatalf("on the way: %v, want %v", got, want)
	}
}

// sends: a post with so many letters, and them.
func sends(t *testing.T, count int) (*Post, []api.Letter) {
	t.Helper()
	p := New()
	var list []api.Letter
	for n := range count {
		if e := p.Send(letter(n)); e != api.OK {
			t.Fatalf("Send of letter %d: %d", n, e)
		}
		list = append(list, letter(n))
	}
	return p, list
}

// refuses: Take tells an error, and nothing else.
func refuses(t *testing.T, p *Post, n int, want api.Errno) {
	t.Helper()
	if l, e := p.Take(n); e != want || l.From != 0 || l.To != 0 || len(l.Data) != 0 {
		t.Errorf("Take(%d): %v, %d, want %d", n, l, e, want)
	}
}

func TestNewHasNone(t *testing.T) {
	p := New()
	if p == nil {
		t.Fatal("New: nil")
	}
	are(t, p, nil)
	for _, n := range append([]int{0}, wrongPlaces...) {
		refuses(t, p, n, api.ErrNone)
		if e := p.Twin(n); e != api.ErrNone {
			t.Errorf("Twin(%d): %d", n, e)
		}
	}
	q := New()
	if e := p.Send(letter(1)); e != api.OK {
		t.Fatal(e)
	}
	are(t, q, nil)
	are(t, New(), nil)
	are(t, p, []api.Letter{letter(1)})
}

func TestSendPutsItLast(t *testing.T) {
	p := New()
	var want []api.Letter
	for n := range most {
		if e := p.Send(letter(n)); e != api.OK {
			t.Fatalf("Send of letter %d: %d", n, e)
		}
		want = append(want, letter(n))
		are(t, p, want)
	}
	for range 3 {
		if e := p.Send(letter(most)); e != api.ErrFull {
			t.Fatalf("Send of one too many: %d", e)
		}
		are(t, p, want)
	}
	if _, e := p.Take(5); e != api.OK {
		t.Fatal(e)
	}
	if e := p.Send(letter(most)); e != api.OK {
		t.Fatalf("Send where there is room again: %d", e)
	}
	are(t, p, append(slices.Delete(want, 5, 6), letter(most)))
}

func TestSendTakesAnyLetter(t *testing.T) {
	list := []api.Letter{
		{},
		{Data: []byte{}},
		{From: -1, To: math.MinInt},
		{From: math.MaxInt, To: 99, Data: make([]byte, 5000)},
		{From: 3, To: 3, Data: []byte{0}},
		{From: 3, To: 3, Data: []byte{0}},
	}
	p := New()
	for _, l := range list {
		if e := p.Send(l); e != api.OK {
			t.Fatalf("Send(%v): %d", l, e)
		}
	}
	are(t, p, list)
	for _, want := range list {
		if l, e := p.Take(0); e != api.OK || !equal(l, want) {
			t.Fatalf("Take(0): %v, %d, want %v", l, e, want)
		}
	}
}

func TestTakeTakesItAway(t *testing.T) {
	for _, count := range []int{1, 2, 3, 17, most} {
		for n := range count {
			p, want := sends(t, count)
			if l, e := p.Take(n); e != api.OK || !equal(l, want[n]) {
				t.Fatalf("Take(%d) of %d: %v, %d", n, count, l, e)
			}
			are(t, p, slices.Delete(want, n, n+1))
			refuses(t, p, count-1, api.ErrNone)
		}
	}
}

func TestWrongPlaces(t *testing.T) {
	for _, count := range []int{0, 1, 2, 63, most} {
		p, want := sends(t, count)
		for _, n := range append([]int{count}, wrongPlaces...) {
			refuses(t, p, n, api.ErrNone)
			// That there are as many as can be is told behind that there is no such letter.
			if e := p.Twin(n); e != api.ErrNone {
				t.Errorf("Twin(%d) of %d: %d", n, count, e)
			}
			are(t, p, want)
		}
	}
}

func TestTwinPutsItLast(t *testing.T) {
	for _, count := range []int{1, 2, 3, 17, most - 1} {
		for n := range count {
			p, want := sends(t, count)
			if e := p.Twin(n); e != api.OK {
				t.Fatalf("Twin(%d) of %d: %d", n, count, e)
			}
			are(t, p, append(want, want[n]))
		}
	}
}

func TestTwinWhereItIsFull(t *testing.T) {
	p, want := sends(t, most-1)
	if e := p.Twin(3); e != api.OK {
		t.Fatal(e)
	}
	want = append(want, want[3])
	for n := range most {
		if e := p.Twin(n); e != api.ErrFull {
			t.Fatalf("Twin(%d) of %d: %d", n, most, e)
		}
		are(t, p, want)
	}
}

func TestNilPost(t *testing.T) {
	var p *Post
	if e := p.Send(letter(1)); e != api.ErrArg {
		t.Errorf("Send: %d", e)
	}
	for _, n := range append([]int{0, 1}, wrongPlaces...) {
		refuses(t, p, n, api.ErrArg)
		if e := p.Twin(n); e != api.ErrArg {
			t.Errorf("Twin(%d): %d", n, e)
		}
	}
	if list := p.Letters(); len(list) != 0 {
		t.Errorf("Letters: %v", list)
	}
}

// spoil: every byte, and those of the spare room.
func spoil(b []byte) {
	b = b[:cap(b)]
	for i := range b {
		b[i] ^= 255
	}
}

func TestSendKeepsNothing(t *testing.T) {
	room := []byte{1, 2, 3, 4, 5, 6}
	p := New()
	if e := p.Send(api.Letter{From: 1, To: 2, Data: room[:3]}); e != api.OK {
		t.Fatal(e)
	}
	if !bytes.Equal(room, []byte{1, 2, 3, 4, 5, 6}) {
		t.Errorf("what was handed in is %v", room)
	}
	spoil(room)
	are(t, p, []api.Letter{{From: 1, To: 2, Data: []byte{1, 2, 3}}})
}

func TestAnswersShareNothing(t *testing.T) {
	p, want := sends(t, 3)
	for range 3 {
		if e := p.Twin(1); e != api.OK {
			t.Fatal(e)
		}
		want = append(want, want[1])
	}
	list := p.Letters()
	for i := range list {
		spoil(list[i].Data)
		if !same(list[i+1:], want[i+1:]) {
			t.Fatalf("letter %d shares with a later one", i)
		}
	}
	for i := range list[:cap(list)] {
		list[:cap(list)][i] = api.Letter{From: 77}
	}
	are(t, p, want)
	for len(want) > 0 {
		l, e := p.Take(0)
		if e != api.OK || !equal(l, want[0]) {
			t.Fatalf("Take(0): %v, %d", l, e)
		}
		spoil(l.Data)
		want = want[1:]
		are(t, p, want)
	}
}

func TestTakenLettersAreApart(t *testing.T) {
	p, _ := sends(t, 2)
	if e := p.Twin(0); e != api.OK {
		t.Fatal(e)
	}
	first, e := p.Take(0)
	if e != api.OK {
		t.Fatal(e)
	}
	second, e := p.Take(1)
	if e != api.OK {
		t.Fatal(e)
	}
	spoil(first.Data)
	if !equal(second, letter(0)) {
		t.Errorf("the twin is %v", second)
	}
}

func TestRandomRunAgainstAList(t *testing.T) {
	r := rand.New(rand.NewSource(18))
	p := New()
	var want []api.Letter
	for step := range 20000 {
		n := r.Intn(len(want)+3) - 1
		there := 0 <= n && n < len(want)
		// Turns in which it is filled, and turns in which it is emptied.
		kind := r.Intn(4)
		if step/200%2 == 0 && kind == 1 {
			kind = 0
		}
		var got, e api.Errno
		switch {
		case kind == 0 && len(want) == most:
			got, e = p.Send(letter(step)), api.ErrFull
		case kind == 0:
			got = p.Send(letter(step))
			want = append(want, letter(step))
		case kind < 3 && !there:
			_, got = p.Take(n)
			e = api.ErrNone
		case kind < 3:
			var l api.Letter
			if l, got = p.Take(n); !equal(l, want[n]) {
				t.Fatalf("step %d: Take(%d): %v, want %v", step, n, l, want[n])
			}
			want = slices.Delete(want, n, n+1)
		case !there:
			got, e = p.Twin(n), api.ErrNone
		case len(want) == most:
			got, e = p.Twin(n), api.ErrFull
		default:
			got = p.Twin(n)
			want = append(want, want[n])
		}
		if got != e {
			t.Fatalf("step %d: %d, want %d", step, got, e)
		}
		are(t, p, want)
	}
}
