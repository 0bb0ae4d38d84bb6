package verb

import (
	"encoding/binary"
	"hash/crc32"
	"math"
	"strings"

	"copyhold/api"
)

// The document's own bounds, not the program's.
const (
	last      = 1073741824
	lastSeat  = 7
	lastE     = 23
	lastKind  = 15
	mostIO    = 256
	mostPath  = 255
	mostName  = 24
	manyNames = 512
)

// span: from where to where something may be.
type span struct{ least, greatest int }

// here: does a number lie there?
func (s span) here(n int) bool { return s.least <= n && n <= s.greatest }

// Spans that are told more than once.
var (
	any30 = span{0, last}
	modes = span{1, 2}
	paths = span{0, mostPath}
)

// has: by the chapter's words, what a kind has: of texts how many bytes, of what is not told none.
type has struct {
	path, other, node, gen, at, size, mode, data span
}

// kinds: by the chapter's words, what each of them has.
func kinds() map[int]has {
	path := has{path: paths}
	both := has{path: paths, other: paths}
	handle := has{node: any30, gen: any30}
	moded := has{node: any30, gen: any30, mode: modes}
	return map[int]has{
		1:  {},
		2:  path,
		3:  path,
		4:  path,
		5:  both,
		6:  path,
		7:  path,
		8:  both,
		9:  path,
		10: {node: any30, gen: any30, at: any30, size: span{1, mostIO}},
		11: {node: any30, gen: any30, at: any30, data: span{1, mostIO}},
		12: {node: any30, gen: any30, size: any30},
		13: moded,
		14: handle,
		15: moded,
	}
}

// modelGood: by the chapter's words, is it a good request?
func modelGood(v api.Verb) bool {
	h, ok := kinds()[v.Kind]
	return ok && span{0, lastSeat}.here(v.Seat) && span{1, last}.here(v.Life) && any30.here(v.Seq) && any30.here(v.Epoch) &&
		h.path.here(len(v.Path)) && h.other.here(len(v.Other)) && h.node.here(v.Handle.Node) && h.gen.here(v.Handle.Gen) &&
		h.at.here(v.At) && h.size.here(v.Size) && h.mode.here(v.Mode) && h.data.here(len(v.Data))
}

// modelReply: by the chapter's words, is it a good reply?
func modelReply(r api.Reply) bool {
	x := r.Stat
	for _, n := range []int{r.Life, r.Seq, r.Epoch, x.Handle.Node, x.Handle.Gen, x.Kind, x.Links, x.Size, x.Change} {
		if !any30.here(n) {
			return false
		}
	}
	for _, name := range r.Names {
		if len(name) > mostName {
			return false
		}
	}
	return span{0, lastE}.here(int(r.E)) && len(r.Data) <= mostIO && len(r.Names) <= manyNames
}

// modelRecall: by the chapter's words, is it a good recall?
func modelRecall(r api.Recall) bool {
	return any30.here(r.Epoch) && any30.here(r.Handle.Node) && any30.here(r.Handle.Gen)
}

// nums: numbers, four bytes each.
func nums(list ...int) []byte {
	var b []byte
	for _, n := range list {
		b = binary.LittleEndian.AppendUint32(b, uint32(n))
	}
	return b
}

// text: its length, and it.
func text(s string) []byte {
	return append(binary.LittleEndian.AppendUint16(nil, uint16(len(s))), s...)
}

// join: one behind the other.
func join(parts ...[]byte) []byte {
	var b []byte
	for _, part := range parts {
		b = append(b, part...)
	}
	return b
}

// framed: a frame with the right sum, whatever is in it.
func framed(tag byte, b []byte) []byte {
	all := join([]byte{tag}, binary.LittleEndian.AppendUint16(nil, uint16(len(b))), b)
	return binary.LittleEndian.AppendUint32(all, crc32.ChecksumIEEE(all))
}

// verbBody: what the frame of a request holds.
func verbBody(v api.Verb) []byte {
	h := v.Handle
	return join(nums(v.Kind, v.Seat, v.Life, v.Seq, v.Epoch, h.Node, h.Gen, v.At, v.Size, v.Mode), text(v.Path), text(v.Other), text(string(v.Data)))
}

// replyBody: what the frame of a reply holds, with any number of names told.
func replyBody(r api.Reply, many int) []byte {
	b := join(nums(r.Life, r.Seq, r.Epoch), changeBody(r), text(string(r.Data)), nums(many))
	for _, name := range r.Names {
		b = append(b, text(name)...)
	}
	return b
}

// changeBody: what Short tells of a reply.
func changeBody(r api.Reply) []byte {
	x := r.Stat
	return nums(int(r.E), x.Handle.Node, x.Handle.Gen, x.Kind, x.Links, x.Size, x.Change)
}

// recallBody: what the frame of a recall holds.
func recallBody(r api.Recall) []byte {
	return nums(r.Epoch, r.Handle.Node, r.Handle.Gen)
}

// edges: numbers round all the ends that there are, and some that would be good if bits of them were lost.
func edges() []int {
	return []int{
		math.MinInt, math.MinInt + 1, -1 << 32, -last, -2, -1, 0, 1, 2, 3, 6, 7, 8, 9, 14, 15, 16, 17, 22, 23, 24, 25, 254, 255, 256, 257,
		9728, 65535, 65536, 0x01020304, last - 1, last, last + 1, 1<<31 - 1, 1 << 31, 1<<32 - 1, 1 << 32, 1<<32 + 1, 1<<32 + 7, 1<<40 + 2, math.MaxInt,
	}
}

// lengths: lengths round all the ends that there are.
func lengths() []int {
	return []int{0, 1, 2, 23, 24, 25, 96, 97, 254, 255, 256, 257, 511, 512, 513, 65535, 65536, 65537, 65536 + 5, 1 << 17}
}

// long: a text of so many bytes, none like the one ahead of it.
func long(n int) string {
	return strings.Repeat("\x00a\xff/ z\n\x80", n/8+1)[:n]
}
