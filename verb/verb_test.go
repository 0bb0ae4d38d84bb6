package verb

import (
	"bytes"
	"encoding/binary"
	"hash/crc32"
	"math"
	"math/rand"
	"slices"
	"testing"

	"copyhold/api"
)

// handle: of the examples.
var handle = api.Handle{Node: 3, Gen: 7}

// examples: a good request of each kind.
func examples() []api.Verb {
	list := []api.Verb{
		{Kind: api.AskHello},
		{Kind: api.AskLook, Path: "/a"},
		{Kind: api.AskMake, Path: "/a/b"},
		{Kind: api.AskMkdir, Path: ""},
		{Kind: api.AskLink, Path: "/a", Other: "/b"},
		{Kind: api.AskUnlink, Path: "no path\x00\xff"},
		{Kind: api.AskRmdir, Path: long(mostPath)},
		{Kind: api.AskRename, Path: "", Other: long(mostPath)},
		{Kind: api.AskList, Path: "/"},
		{Kind: api.AskRead, Handle: handle, At: 600, Size: 200},
		{Kind: api.AskWrite, Handle: handle, At: 5, Data: []byte("\x00\xff")},
		{Kind: api.AskTrunc, Handle: handle, Size: 9728},
		{Kind: api.AskLease, Handle: handle, Mode: api.Reading},
		{Kind: api.AskRelease, Handle: handle},
		{Kind: api.AskReclaim, Handle: handle, Mode: api.Writing},
	}
	for i := range list {
		list[i].Seat, list[i].Life, list[i].Seq, list[i].Epoch = i%8, i+1, 300+i, 70000+i
	}
	return list
}

// reply: a good one with all that there may be.
func reply() api.Reply {
	return api.Reply{
		Life: 1, Seq: 2, Epoch: 3, E: api.ErrBusy,
		Stat: api.Stat{Handle: handle, Kind: 2, Links: 4, Size: 600, Change: 70000},
		Data: []byte("xyz"), Names: []string{"a", "", "b\xff"},
	}
}

// sameVerb: do both say the same?
func sameVerb(a, b api.Verb) bool {
	same := bytes.Equal(a.Data, b.Data) && a.Path == b.Path && a.Other == b.Other && a.Handle == b.Handle
	return same && a.Kind == b.Kind && a.Seat == b.Seat && a.Life == b.Life && a.Seq == b.Seq && a.Epoch == b.Epoch &&
		a.At == b.At && a.Size == b.Size && a.Mode == b.Mode
}

// sameReply: do both say the same?
func sameReply(a, b api.Reply) bool {
	return a.Life == b.Life && a.Seq == b.Seq && a.Epoch == b.Epoch && a.E == b.E && a.Stat == b.Stat &&
		bytes.Equal(a.Data, b.Data) && slices.Equal(a.Names, b.Names)
}

// verbGoes: a request is good just if the chapter says so, and has just the chapter's frame, there and back.
func verbGoes(t *testing.T, v api.Verb) {
	t.Helper()
	good := modelGood(v)
	if Good(v) != good {
		t.Errorf("Good(%+v): %v", v, !good)
	}
	b, e := Encode(v)
	if !good {
		if e != api.ErrForm || len(b) != 0 {
			t.Errorf("Encode(%+v): %v, %d", v, b, e)
		}
		return
	}
	want := framed('Q', verbBody(v))
	if e != api.OK || !bytes.Equal(b, want) {
		t.Errorf("Encode(%+v): %v, %d, want %v", v, b, e, want)
	}
	if x, e := Decode(want); e != api.OK || !sameVerb(x, v) {
		t.Errorf("Decode of %+v: %+v, %d", v, x, e)
	}
}

// replyGoes: likewise of a reply, and of its short form.
func replyGoes(t *testing.T, r api.Reply) {
	t.Helper()
	b, e := Answer(r)
	short := Short(r)
	if !modelReply(r) {
		if e != api.ErrForm || len(b) != 0 || len(short) != 0 {
			t.Errorf("Answer(%+v): %v, %d; Short: %v", r, b, e, short)
		}
		return
	}
	want := framed('A', replyBody(r, len(r.Names)))
	if e != api.OK || !bytes.Equal(b, want) {
		t.Errorf("Answer(%+v): %v, %d, want %v", r, b, e, want)
	}
	if x, e := Answered(want); e != api.OK || !sameReply(x, r) {
		t.Errorf("Answered of %+v: %+v, %d", r, x, e)
	}
	if !bytes.Equal(short, changeBody(r)) {
		t.Errorf("Short(%+v): %v", r, short)
	}
	if x, e := Long(changeBody(r)); e != api.OK || !sameReply(x, api.Reply{E: r.E, Stat: r.Stat}) {
		t.Errorf("Long of %+v: %+v, %d", r, x, e)
	}
}

// recallGoes: likewise of a recall.
func recallGoes(t *testing.T, r api.Recall) {
	t.Helper()
	b, e := Call(r)
	if !modelRecall(r) {
		if e != api.ErrForm || len(b) != 0 {
			t.Errorf("Call(%+v): %v, %d", r, b, e)
		}
		return
	}
	want := framed('C', recallBody(r))
	if e != api.OK || !bytes.Equal(b, want) {
		t.Errorf("Call(%+v): %v, %d, want %v", r, b, e, want)
	}
	if x, e := Called(want); e != api.OK || x != r {
		t.Errorf("Called of %+v: %+v, %d", r, x, e)
	}
}

// noVerb, noReply, noRecall, noShort: these bytes are none.
func noVerb(t *testing.T, what string, b []byte) {
	t.Helper()
	if v, e := Decode(b); e != api.ErrForm || !sameVerb(v, api.Verb{}) {
		t.Errorf("%s: Decode: %+v, %d", what, v, e)
	}
}

func noReply(t *testing.T, what string, b []byte) {
	t.Helper()
	if r, e := Answered(b); e != api.ErrForm || !sameReply(r, api.Reply{}) {
		t.Errorf("%s: Answered: %+v, %d", what, r, e)
	}
}

func noRecall(t *testing.T, what string, b []byte) {
	t.Helper()
	if r, e := Called(b); e != api.ErrForm || r != (api.Recall{}) {
		t.Errorf("%s: Called: %+v, %d", what, r, e)
	}
}

func noShort(t *testing.T, what string, b []byte) {
	t.Helper()
	if r, e := Long(b); e != api.ErrForm || !sameReply(r, api.Reply{}) {
		t.Errorf("%s: Long: %+v, %d", what, r, e)
	}
}

// verbNumbers: the numbers of a request.
func verbNumbers(v *api.Verb) []*int {
	return []*int{&v.Kind, &v.Seat, &v.Life, &v.Seq, &v.Epoch, &v.Handle.Node, &v.Handle.Gen, &v.At, &v.Size, &v.Mode}
}

// replyNumbers: the numbers of a reply, but for E.
func replyNumbers(r *api.Reply) []*int {
	x := &r.Stat
	return []*int{&r.Life, &r.Seq, &r.Epoch, &x.Handle.Node, &x.Handle.Gen, &x.Kind, &x.Links, &x.Size, &x.Change}
}

// P17.1: a good request of each kind is good, and each number and text of it at every edge is as the chapter says.
func TestRequestsAtEdges(t *testing.T) {
	for i, example := range examples() {
		if !Good(example) {
			t.Errorf("%d is not good", i)
		}
		verbGoes(t, example)
		for k := range verbNumbers(&example) {
			for _, n := range edges() {
				v := example
				*verbNumbers(&v)[k] = n
				verbGoes(t, v)
			}
		}
		for _, n := range lengths() {
			v := example
			v.Path = long(n)
			verbGoes(t, v)
			v = example
			v.Other = long(n)
			verbGoes(t, v)
			v = example
			v.Data = []byte(long(n))
			verbGoes(t, v)
		}
	}
}

// P17.1: each kind, with what any other kind has, is good just if it has the same.
func TestOtherKinds(t *testing.T) {
	for _, example := range examples() {
		for _, kind := range edges() {
			v := example
			v.Kind = kind
			verbGoes(t, v)
		}
	}
	good := 0
	for kind := -2; kind <= lastKind+3; kind++ {
		v := api.Verb{Kind: kind, Life: 1}
		if Good(v) {
			good++
		}
		verbGoes(t, v)
	}
	// All but Read, Write, Lease and Reclaim, which never have nothing.
	if good != 11 {
		t.Errorf("%d kinds are good with nothing", good)
	}
}

// P17.1: requests that are told in the chapter's words.
func TestRequestsThatAreNone(t *testing.T) {
	for i, v := range []api.Verb{
		{},
		{Kind: api.AskHello},
		{Kind: api.AskHello, Life: 1, Path: "/"},
		{Kind: api.AskHello, Life: 1, Handle: api.Handle{Node: 1}},
		{Kind: api.AskHello, Life: 1, Handle: api.Handle{Gen: 1}},
		{Kind: api.AskLook, Life: 1, Other: "/"},
		{Kind: api.AskLook, Life: 1, Data: []byte{0}},
		{Kind: api.AskRename, Life: 1, At: 1},
		{Kind: api.AskRead, Life: 1},
		{Kind: api.AskRead, Life: 1, Size: mostIO + 1},
		{Kind: api.AskRead, Life: 1, Size: 1, Mode: 1},
		{Kind: api.AskRead, Life: 1, Size: 1, Data: []byte{0}},
		{Kind: api.AskWrite, Life: 1},
		{Kind: api.AskWrite, Life: 1, Data: []byte{0}, Size: 1},
		{Kind: api.AskWrite, Life: 1, Data: make([]byte, mostIO+1)},
		{Kind: api.AskTrunc, Life: 1, At: 1},
		{Kind: api.AskTrunc, Life: 1, Size: -1},
		{Kind: api.AskTrunc, Life: 1, Size: last + 1},
		{Kind: api.AskLease, Life: 1},
		{Kind: api.AskLease, Life: 1, Mode: 3},
		{Kind: api.AskRelease, Life: 1, Mode: 1},
		{Kind: api.AskReclaim, Life: 1, Mode: 1, Path: "/"},
		{Kind: api.AskLook, Life: last + 1},
		{Kind: api.AskLook, Life: 1, Seat: 8},
		{Kind: api.AskLook, Life: 1, Seat: -1},
		{Kind: 0, Life: 1},
		{Kind: 16, Life: 1},
	} {
		if b, e := Encode(v); Good(v) || e != api.ErrForm || len(b) != 0 {
			t.Errorf("%d: %v, %v, %d", i, Good(v), b, e)
		}
	}
}

// P17.1: what changes something.
func TestChanges(t *testing.T) {
	want := []int{3, 4, 5, 6, 7, 8, 11, 12}
	for kind := -20; kind < 300; kind++ {
		if Changes(kind) != slices.Contains(want, kind) {
			t.Errorf("Changes(%d): %v", kind, Changes(kind))
		}
	}
	for _, kind := range []int{math.MinInt, math.MaxInt, 1<<32 + 3, -1<<32 + 11, 256 + 5} {
		if Changes(kind) {
			t.Errorf("Changes(%d)", kind)
		}
	}
}

// P17.1: frames that are written out here, but for their sums.
func TestWrittenOut(t *testing.T) {
	v := api.Verb{Kind: 11, Seat: 7, Life: 0x01020304, Seq: 5, Epoch: 6, Handle: api.Handle{Node: 8, Gen: 9}, At: 1 << 30, Data: []byte("xy")}
	b, e := Encode(v)
	want := "Q\x30\x00" + "\x0b\x00\x00\x00" + "\x07\x00\x00\x00" + "\x04\x03\x02\x01" + "\x05\x00\x00\x00" + "\x06\x00\x00\x00" +
		"\x08\x00\x00\x00" + "\x09\x00\x00\x00" + "\x00\x00\x00\x40" + "\x00\x00\x00\x00" + "\x00\x00\x00\x00" +
		"\x00\x00" + "\x00\x00" + "\x02\x00xy"
	isFrame(t, "request", b, e, want)
	v = api.Verb{Kind: 8, Life: 1, Path: "/a", Other: "b"}
	b, e = Encode(v)
	want = "Q\x31\x00" + "\x08\x00\x00\x00" + "\x00\x00\x00\x00" + "\x01\x00\x00\x00" + string(make([]byte, 28)) + "\x02\x00/a" + "\x01\x00b" + "\x00\x00"
	isFrame(t, "rename", b, e, want)
	b, e = Answer(reply())
	change := "\x13\x00\x00\x00" + "\x03\x00\x00\x00" + "\x07\x00\x00\x00" + "\x02\x00\x00\x00" + "\x04\x00\x00\x00" + "\x58\x02\x00\x00" + "\x70\x11\x01\x00"
	want = "A\x3a\x00" + "\x01\x00\x00\x00" + "\x02\x00\x00\x00" + "\x03\x00\x00\x00" + change +
		"\x03\x00xyz" + "\x03\x00\x00\x00" + "\x01\x00a" + "\x00\x00" + "\x02\x00b\xff"
	isFrame(t, "reply", b, e, want)
	b, e = Call(api.Recall{Epoch: 2, Handle: handle})
	isFrame(t, "recall", b, e, "C\x0c\x00"+"\x02\x00\x00\x00"+"\x03\x00\x00\x00"+"\x07\x00\x00\x00")
	if string(Short(reply())) != change {
		t.Errorf("Short: %q", Short(reply()))
	}
}

// isFrame: that is what was answered, with the right sum behind it.
func isFrame(t *testing.T, what string, b []byte, e api.Errno, want string) {
	t.Helper()
	sum := crc32.ChecksumIEEE([]byte(want))
	want += string(binary.LittleEndian.AppendUint32(nil, sum))
	if e != api.OK || string(b) != want {
		t.Errorf("%s: %q, %d, want %q", what, b, e, want)
	}
}

// P17.1, P17.2: replies, each number of them at every edge, and every error.
func TestRepliesAtEdges(t *testing.T) {
	replyGoes(t, api.Reply{})
	replyGoes(t, reply())
	for _, n := range edges() {
		for k := range replyNumbers(new(api.Reply)) {
			r := reply()
			*replyNumbers(&r)[k] = n
			replyGoes(t, r)
		}
		r := reply()
		r.E = api.Errno(n)
		replyGoes(t, r)
	}
	for _, n := range lengths() {
		r := reply()
		r.Data = []byte(long(n))
		replyGoes(t, r)
		r = reply()
		r.Names[1] = long(n)
		replyGoes(t, r)
		r = reply()
		r.Names = make([]string, n)
		replyGoes(t, r)
	}
}

// P17.1: the greatest reply of all, and a name too many, or too long, at any place.
func TestGreatReplies(t *testing.T) {
	r := api.Reply{Data: []byte(long(mostIO))}
	for range manyNames {
		r.Names = append(r.Names, long(mostName))
	}
	replyGoes(t, r)
	if b, e := Answer(r); e != api.OK || len(b) != 7+40+2+mostIO+4+manyNames*(2+mostName) {
		t.Errorf("%d bytes, %d", len(b), e)
	}
	for _, at := range []int{0, 1, 100, manyNames - 1} {
		x := r
		x.Names = slices.Clone(r.Names)
		x.Names[at] = long(mostName + 1)
		replyGoes(t, x)
	}
	r.Names = append(r.Names, "")
	replyGoes(t, r)
	r.Names = nil
	r.Data = append(r.Data, 0)
	replyGoes(t, r)
}

// P17.1: recalls, each number of them at every edge.
func TestRecallsAtEdges(t *testing.T) {
	for _, n := range edges() {
		recallGoes(t, api.Recall{Epoch: n, Handle: handle})
		recallGoes(t, api.Recall{Epoch: 1, Handle: api.Handle{Node: n, Gen: 7}})
		recallGoes(t, api.Recall{Epoch: 1, Handle: api.Handle{Node: 3, Gen: n}})
		recallGoes(t, api.Recall{Epoch: n, Handle: api.Handle{Node: n, Gen: n}})
	}
}

// P17.1: frames that are too short, too long, of which a bit is turned, or which have another tag.
func TestBrokenFrames(t *testing.T) {
	verbs := examples()
	for _, v := range []api.Verb{verbs[0], verbs[7], verbs[10]} {
		broken(t, framed('Q', verbBody(v)), verbBody(v), 'Q', noVerb)
	}
	broken(t, framed('A', replyBody(reply(), 3)), replyBody(reply(), 3), 'A', noReply)
	broken(t, framed('C', recallBody(api.Recall{Epoch: 2, Handle: handle})), recallBody(api.Recall{Epoch: 2, Handle: handle}), 'C', noRecall)
}

// broken: nothing near that frame is one.
func broken(t *testing.T, frame, body []byte, own byte, none func(*testing.T, string, []byte)) {
	t.Helper()
	for n := range frame {
		none(t, "cut", frame[:n])
		none(t, "cut ahead", frame[len(frame)-n:])
	}
	none(t, "longer", append(bytes.Clone(frame), 0))
	none(t, "twice", append(bytes.Clone(frame), frame...))
	for i := range 8 * len(frame) {
		b := bytes.Clone(frame)
		b[i/8] ^= 1 << (i % 8)
		none(t, "turned", b)
	}
	for tag := range 256 {
		if byte(tag) != own {
			none(t, "tag", framed(byte(tag), body))
		}
	}
	for n := range body {
		none(t, "fewer fields", framed(own, body[:n]))
	}
	none(t, "more fields", framed(own, append(bytes.Clone(body), 0)))
	none(t, "more fields", framed(own, append(bytes.Clone(body), 0, 0, 0, 0)))
	none(t, "bare", body)
}

// P17.1: frames, with right sums, of what is not good.
func TestFramesOfNone(t *testing.T) {
	for _, example := range examples() {
		for k := range verbNumbers(&example) {
			for _, n := range []int{0, 1, 3, 8, 16, 257, last, last + 1, 1<<31 - 1, 1 << 31, 1<<32 - 1} {
				v := example
				*verbNumbers(&v)[k] = n
				if !modelGood(v) {
					noVerb(t, "number", framed('Q', verbBody(v)))
				}
			}
		}
		for _, n := range []int{0, 1, 256, 257, 300, 60000} {
			v, w, x := example, example, example
			v.Path, w.Other, x.Data = long(n), long(n), []byte(long(n))
			for _, y := range []api.Verb{v, w, x} {
				if !modelGood(y) {
					noVerb(t, "text", framed('Q', verbBody(y)))
				}
			}
		}
	}
	for _, n := range []int{last + 1, 1<<31 - 1, 1 << 31, 1<<32 - 1} {
		for k := range replyNumbers(new(api.Reply)) {
			r := reply()
			*replyNumbers(&r)[k] = n
			noReply(t, "number", framed('A', replyBody(r, 3)))
		}
		noRecall(t, "epoch", framed('C', nums(n, 3, 7)))
		noRecall(t, "node", framed('C', nums(2, n, 7)))
		noRecall(t, "gen", framed('C', nums(2, 3, n)))
	}
	for _, n := range []int{lastE + 1, 100, last, 1<<32 - 1} {
		r := reply()
		r.E = api.Errno(n)
		noReply(t, "error", framed('A', replyBody(r, 3)))
	}
}

// P17.1: frames of replies that tell another number of names than they have, or too many, or too long ones.
func TestFramesOfNames(t *testing.T) {
	for _, many := range []int{0, 1, 2, 4, 5, manyNames, manyNames + 1, last, 1 << 31, 1<<32 - 1} {
		noReply(t, "many", framed('A', replyBody(reply(), many)))
	}
	r := reply()
	r.Names = make([]string, manyNames+1)
	noReply(t, "too many", framed('A', replyBody(r, len(r.Names))))
	noReply(t, "one not told", framed('A', replyBody(r, manyNames)))
	r = reply()
	r.Names[2] = long(mostName + 1)
	noReply(t, "name", framed('A', replyBody(r, 3)))
	r = reply()
	r.Data = []byte(long(mostIO + 1))
	noReply(t, "data", framed('A', replyBody(r, 3)))
}

// P17.2: bytes that are Short of no reply.
func TestShortOfNone(t *testing.T) {
	b := Short(reply())
	if len(b) != 28 {
		t.Fatalf("%d bytes", len(b))
	}
	for n := range b {
		noShort(t, "cut", b[:n])
	}
	noShort(t, "longer", append(bytes.Clone(b), 0))
	noShort(t, "twice", append(bytes.Clone(b), b...))
	noShort(t, "error", nums(lastE+1, 3, 7, 1, 1, 9, 4))
	for k := range 7 {
		for _, n := range []int{last + 1, 1<<31 - 1, 1 << 31, 1<<32 - 1} {
			list := []int{0, 3, 7, 1, 1, 9, 4}
			list[k] = n
			noShort(t, "number", nums(list...))
		}
	}
	// Noughts are Short of a reply that says nothing.
	if r, e := Long(make([]byte, 28)); e != api.OK || !sameReply(r, api.Reply{}) {
		t.Errorf("%+v, %d", r, e)
	}
	if len(Short(api.Reply{})) != 28 {
		t.Errorf("%v", Short(api.Reply{}))
	}
}

// R1: any bytes.
func TestAnyBytes(t *testing.T) {
	for _, b := range [][]byte{nil, {}, {'Q'}, []byte("QAC"), make([]byte, 7), make([]byte, 65542), bytes.Repeat([]byte{255}, 70000)} {
		noVerb(t, "any", b)
		noReply(t, "any", b)
		noRecall(t, "any", b)
		noShort(t, "any", b)
	}
}

// R4: what is handed in is neither changed nor kept, and what is answered is new, spare room included.
func TestMemory(t *testing.T) {
	room := []byte("ABCDEFGHIJ")
	v := api.Verb{Kind: api.AskWrite, Life: 1, Data: room[2:5]}
	a, _ := Encode(v)
	b, _ := Encode(v)
	_ = append(a, "zz"...)
	fill(a)
	if string(room) != "ABCDEFGHIJ" || string(v.Data) != "CDE" || !bytes.Equal(b, framed('Q', verbBody(v))) {
		t.Errorf("Encode: %q, %v", room, b)
	}
	frame := append(bytes.Clone(b), "spare"...)[:len(b)]
	kept := bytes.Clone(frame[:len(b)+5])
	x, _ := Decode(frame)
	y, _ := Decode(frame)
	_ = append(x.Data, "zzzzz"...)
	fill(x.Data)
	if !bytes.Equal(frame[:len(b)+5], kept) || !sameVerb(y, v) {
		t.Errorf("Decode: %v, %+v", frame, y)
	}
	fill(frame)
	if !sameVerb(y, v) {
		t.Errorf("Decode keeps: %+v", y)
	}
}

// R4: likewise of replies.
func TestMemoryOfReplies(t *testing.T) {
	room := []byte("ABCDEFGHIJ")
	list := []string{"a", "b", "c", "d"}
	r := reply()
	r.Data, r.Names = room[2:5], list[1:3]
	a, _ := Answer(r)
	b, _ := Answer(r)
	_ = append(a, "zz"...)
	fill(a)
	if string(room) != "ABCDEFGHIJ" || !slices.Equal(list, []string{"a", "b", "c", "d"}) || !bytes.Equal(b, framed('A', replyBody(r, 2))) {
		t.Errorf("Answer: %q, %q, %v", room, list, b)
	}
	x, _ := Answered(b)
	y, _ := Answered(b)
	_, _ = append(x.Data, "zzzzz"...), append(x.Names, "z", "z")
	fill(x.Data)
	x.Names[0] = "z"
	fill(b)
	if !sameReply(y, r) {
		t.Errorf("Answered: %+v", y)
	}
	short, other := Short(r), Short(r)
	fill(short)
	if !bytes.Equal(other, changeBody(r)) {
		t.Errorf("Short: %v", other)
	}
}

// fill: other bytes in all the room that a list has.
func fill(b []byte) {
	b = b[:cap(b)]
	for i := range b {
		b[i] = '?'
	}
}

// drawn: one of these numbers.
func drawn(r *rand.Rand, list []int) int {
	return list[r.Intn(len(list))]
}

// P17.1, P17.2: any requests, replies and recalls go by the chapter's words, and what any bytes are read as has just these as its frame.
func TestModel(t *testing.T) {
	r := rand.New(rand.NewSource(17))
	for range 20000 {
		v := examples()[r.Intn(lastKind)]
		for range r.Intn(3) {
			*verbNumbers(&v)[r.Intn(10)] = drawn(r, edges())
		}
		if r.Intn(4) == 0 {
			v.Path = long(r.Intn(260))
		}
		if r.Intn(4) == 0 {
			v.Data = []byte(long(r.Intn(260)))
		}
		verbGoes(t, v)
		p := reply()
		*replyNumbers(&p)[r.Intn(9)] = drawn(r, edges())
		p.E = api.Errno(r.Intn(lastE + 3))
		p.Data = []byte(long(r.Intn(260)))
		for range r.Intn(4) {
			p.Names = append(p.Names, long(r.Intn(mostName+2)))
		}
		replyGoes(t, p)
		readBack(t, mixed(r, verbBody(v), replyBody(p, r.Intn(8)), changeBody(p)))
	}
}

// mixed: fields of which some bytes are others.
func mixed(r *rand.Rand, bodies ...[]byte) []byte {
	b := bodies[r.Intn(len(bodies))]
	for range r.Intn(4) {
		b[r.Intn(len(b))] = byte(drawn(r, []int{0, 1, 2, 3, 255, 64, 128, r.Intn(256)}))
	}
	return b
}

// readBack: what these bytes are read as, if as something, has them again.
func readBack(t *testing.T, body []byte) {
	t.Helper()
	q, a, c := framed('Q', body), framed('A', body), framed('C', body)
	if v, e := Decode(q); e == api.OK {
		if b, f := Encode(v); f != api.OK || !bytes.Equal(b, q) {
			t.Errorf("%v: %+v, %v", q, v, b)
		}
	}
	if r, e := Answered(a); e == api.OK {
		if b, f := Answer(r); f != api.OK || !bytes.Equal(b, a) {
			t.Errorf("%v: %+v, %v", a, r, b)
		}
	}
	if r, e := Called(c); e == api.OK {
		if b, f := Call(r); f != api.OK || !bytes.Equal(b, c) {
			t.Errorf("%v: %+v, %v", c, r, b)
		}
	}
	if r, e := Long(body); e == api.OK {
		if b := Short(r); !bytes.Equal(b, body) {
			t.Errorf("%v: %+v, %v", body, r, b)
		}
	}
}
