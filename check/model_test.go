package check

import (
	"bytes"
	"math/rand"
	"slices"
	"strconv"
	"strings"
	"testing"

	"copyhold/api"
	"copyhold/drive"
	"copyhold/field"
	"copyhold/names"
	"copyhold/space"
	"copyhold/store"
)

// num: a number of some bytes, the lowest first.
func num(b []byte) int {
	n := 0
	for i := len(b) - 1; i >= 0; i-- {
		n = n<<8 | int(b[i])
	}
	return n
}

// noughts: have all of them bytes 0?
func noughts(b []byte) bool { return len(bytes.Trim(b, "\x00")) == 0 }

// summed: has a sector a sign, and a sum that is right?
func summed(b []byte, sign string) bool {
	return string(b[:4]) == sign && num(b[124:]) == int(field.Sum(b[:124]))
}

// frames: are the super, the head and the seats right? By chapters 6, 7 and 8, read without their packages.
func frames(m raw) bool {
	b := m[0]
	if !summed(b, "COPY") || num(b[4:8]) != len(m) || num(b[8:12]) > last || num(b[12:16]) > last || !noughts(b[16:124]) {
		return false
	}
	if !summed(m[1], "REDO") || !noughts(m[1][4:124]) {
		return false
	}
	for _, b := range m[26:34] {
		long := int(b[12])
		if !summed(b, "SEAT") || num(b[4:8]) > last || num(b[8:12]) > last || long > 96 || !noughts(b[13+long:124]) {
			return false
		}
	}
	return true
}

// bytesOf: a node's bytes as they lie.
func bytesOf(m raw, n int) []byte { return m[35+n/4][n%4*32 : n%4*32+32] }

// nodeSound: by chapter 10.
func nodeSound(b []byte) bool {
	size := num(b[6:10])
	if num(b[2:6]) > last || num(b[10:14]) > last || size > maxSize || !noughts(b[26:]) {
		return false
	}
	for i := 14; i < 26; i += 2 {
		if p := num(b[i : i+2]); p != 0 && (p < 43 || p > 1023) {
			return false
		}
	}
	switch b[0] {
	case 0:
		return b[1] == 0 && size == 0 && noughts(b[14:])
	case 1:
		return b[1] > 0
	case 2:
		return b[1] == 1 && size%32 == 0
	}
	return false
}

// follow: the sectors on the way to a block of a node, its own at the end; nil, if one is not there; false, if one is none.
func follow(m raw, b []byte, block int) ([]int, bool) {
	way := []int{num(b[14+2*min(block, 4):][:2])}
	rest := []int{}
	switch {
	case block >= 12:
		way[0] = num(b[24:26])
		rest = []int{(block - 12) / 8, (block - 12) % 8}
	case block >= 4:
		way[0] = num(b[22:24])
		rest = []int{block - 4}
	}
	for _, i := range rest {
		at := way[len(way)-1]
		if at == 0 {
			return nil, true
		}
		if at >= len(m) || !noughts(m[at][16:]) {
			return nil, false
		}
		for j := 0; j < 16; j += 2 {
			if p := num(m[at][j : j+2]); p != 0 && (p < 43 || p > 1023) {
				return nil, false
			}
		}
		way = append(way, num(m[at][2*i:2*i+2]))
	}
	if at := way[len(way)-1]; at == 0 || at >= len(m) {
		return nil, at == 0
	}
	return way, true
}

// blocks: a node's bytes up to its end, and how often each sector is named by it; false, if it is not sound.
func blocks(m raw, b []byte, named map[int]int) ([]byte, bool) {
	size := num(b[6:10])
	all := make([]byte, 76*128)
	above := map[int]map[int]int{}
	for block := range 76 {
		way, ok := follow(m, b, block)
		if !ok || way != nil && block*128 >= size {
			return nil, false
		}
		for i, at := range way {
			if i == len(way)-1 {
				named[at]++
				copy(all[block*128:], m[at])
				continue
			}
			if above[at] == nil {
				above[at] = map[int]int{}
			}
			above[at][way[i+1]]++
		}
	}
	// Sectors of pointers, by where they are named from.
	points := []int{num(b[22:24]), num(b[24:26])}
	if two := points[1]; two != 0 {
		for i := range 8 {
			points = append(points, num(m[two][2*i:2*i+2]))
		}
	}
	for _, at := range points {
		if at != 0 {
			named[at]++
			if above[at] == nil {
				return nil, false
			}
		}
	}
	return all[:size], noughts(all[size:])
}

// entries: what a directory's bytes name.
func entries(data []byte) (map[string]int, bool) {
	list := map[string]int{}
	for part := range slices.Chunk(data, 32) {
		if noughts(part) {
			continue
		}
		long, n := int(part[0]), num(part[25:27])
		if long < 1 || long > 24 || !noughts(part[1+long:25]) || !noughts(part[27:]) || n < 1 || n > 31 {
			return nil, false
		}
		name := string(part[1 : 1+long])
		const may = "abcdefghijklmnopqrstuvwxyzABCDEFGHIJKLMNOPQRSTUVWXYZ0123456789._-"
		if name == "." || name == ".." || strings.Trim(name, may) != "" || list[name] != 0 {
			return nil, false
		}
		for _, c := range []byte(name) {
			if !strings.Contains(may, string(rune(c))) {
				return nil, false
			}
		}
		list[name] = n
	}
	return list, true
}

// model: whether sectors are sound, by chapter 16's words, from bytes alone.
func model(m raw) bool {
	for _, b := range m {
		if len(b) != 128 {
			return false
		}
	}
	if len(m) < 64 || len(m) > 1024 || !frames(m) {
		return false
	}
	named := map[int]int{}
	within := map[int]map[string]int{}
	for n := range 32 {
		b := bytesOf(m, n)
		if !nodeSound(b) || num(b[2:6]) > num(m[0][12:16]) {
			return false
		}
		data, ok := blocks(m, b, named)
		if !ok {
			return false
		}
		if b[0] == 2 {
			if within[n], ok = entries(data); !ok {
				return false
			}
		}
	}
	for n := range 1024 {
		times := named[n]
		if n < 43 {
			times = 1
		}
		if times > 1 || times != int(m[34][n/8])>>(n%8)&1 {
			return false
		}
	}
	return tied(m, within)
}

// tied: is each node there as often as it says, and to be come to?
func tied(m raw, within map[int]map[string]int) bool {
	if bytesOf(m, 0)[0] != 0 || bytesOf(m, 1)[0] != 2 {
		return false
	}
	var times, near [32]int
	for _, list := range within {
		for _, n := range list {
			times[n]++
		}
	}
	near[1] = 1
	for range 32 {
		for n, list := range within {
			for _, k := range list {
				near[k] = max(near[k], near[n])
			}
		}
	}
	for n := range 32 {
		b := bytesOf(m, n)
		links := int(b[1])
		if n == 1 {
			links = 0
		}
		if times[n] != links || b[0] != 0 && near[n] == 0 {
			return false
		}
	}
	return true
}

// agrees: Image and Tree say of sectors what the model does.
func agrees(t *testing.T, what string, m raw) {
	t.Helper()
	want := api.ErrForm
	if model(m) {
		want = api.OK
	}
	was := m.clone()
	is(t, what, Image(m), want)
	_, e := Tree(m)
	is(t, "Tree: "+what, e, want)
	if !m.equal(was) {
		t.Errorf("%s: it was changed", what)
	}
}

// P16.1: bit by bit, where something is told of what belongs to whom.
func TestBits(t *testing.T) {
	was := rich(t)
	agrees(t, "as it was", was)
	for n, b := range was {
		if n >= atBody && n < atSeats || noughts(b) {
			continue
		}
		// Every third one, so that all bits of a byte have their turn.
		for i := n % 3; i < 8*size; i += 3 {
			b[i/8] ^= 1 << (i % 8)
			agrees(t, "bit "+strconv.Itoa(i)+" of sector "+strconv.Itoa(n), was)
			b[i/8] ^= 1 << (i % 8)
		}
	}
	agrees(t, "as it was again", was)
}

// spoil: a field of a node, of pointers or of an entry becomes another one that may be there, and marks follow sometimes.
func spoil(r *rand.Rand, m raw) {
	pick := func(list ...int) int { return list[r.Intn(len(list))] }
	sector := func() int { return pick(0, 43+r.Intn(30), 43+r.Intn(30), 43+r.Intn(30), 199, 200) }
	b := bytesOf(m, pick(1, 2, 3, 4, 5, 6, 7))
	var at int
	switch r.Intn(7) {
	case 0:
		at = sector()
		i := 14 + 2*r.Intn(6)
		b[i], b[i+1] = byte(at), byte(at>>8)
	case 1:
		b[0], b[1] = byte(pick(0, 1, 2)), byte(pick(0, 1, 2, 3))
	case 2:
		n := pick(0, 32, 64, 128, 160, 256, 299, 300, 384, 9700, 9728)
		b[6], b[7] = byte(n), byte(n>>8)
	case 3:
		at = sector()
		m.point(43+r.Intn(20), r.Intn(8), at)
	case 4:
		m[43+r.Intn(20)][32*r.Intn(4)+25] = byte(r.Intn(9))
	case 5:
		i, j := 43+r.Intn(20), 43+r.Intn(20)
		m[i], m[j] = m[j], m[i]
	case 6:
		clear(m[43+r.Intn(20)][32*r.Intn(4):])
	}
	if at != 0 {
		m.mark(at, true)
	}
	if r.Intn(3) == 0 {
		remark(m)
	}
}

// remark: what nodes name is marked, and nothing else, as far as that can be told.
func remark(m raw) {
	named := map[int]int{}
	for n := range 32 {
		if b := bytesOf(m, n); nodeSound(b) {
			if _, ok := blocks(m, b, named); !ok {
				return
			}
		}
	}
	for n := 43; n < 1024; n++ {
		m.mark(n, named[n] > 0)
	}
}

// P16.1: whatever is told of what belongs to whom.
func TestSpoilt(t *testing.T) {
	r := rand.New(rand.NewSource(1))
	was := rich(t)
	sound := 0
	for i := range 5000 {
		m := was.clone()
		for range 1 + r.Intn(3) {
			spoil(r, m)
		}
		agrees(t, "image "+strconv.Itoa(i), m)
		if Image(m) == api.OK && !m.equal(was) {
			sound++
		}
		if t.Failed() {
			return
		}
	}
	if sound < 100 {
		t.Errorf("%d sound ones alone", sound)
	}
}

// seen: all paths below one, as names and space tell of them.
func seen(t *testing.T, s *store.Store, p string, all map[string]Item) {
	t.Helper()
	x, e := names.Look(s, p)
	must(t, "Look "+p, e)
	item := Item{Path: p, Node: x.Handle.Node, Kind: x.Kind}
	if x.Kind == api.File {
		item.Data, e = space.Read(s, x.Handle.Node, 0, maxSize)
		must(t, "Read "+p, e)
	}
	all[p] = item
	if x.Kind == api.File {
		return
	}
	list, e := names.List(s, p)
	must(t, "List "+p, e)
	for _, name := range list {
		seen(t, s, strings.TrimSuffix(p, "/")+"/"+name, all)
	}
}

// same: Tree tells of a drive what its store does.
func same(t *testing.T, s *store.Store, d *drive.Drive) {
	t.Helper()
	all := map[string]Item{}
	seen(t, s, "/", all)
	items, e := Tree(d.Image())
	must(t, "Tree", e)
	if len(items) != len(all) || items[0].Path != "/" {
		t.Fatalf("%d items, want %d", len(items), len(all))
	}
	for i, x := range items {
		want, ok := all[x.Path]
		if !ok || x.Node != want.Node || x.Kind != want.Kind || !bytes.Equal(x.Data, want.Data) {
			t.Fatalf("%s is not as the store tells it", x.Path)
		}
		if i > 0 && items[i-1].Path >= x.Path {
			t.Fatalf("%s is behind %s", x.Path, items[i-1].Path)
		}
	}
}

// step: something is done to a tree of names.
func step(r *rand.Rand, s *store.Store) api.Errno {
	path := func() string {
		p := ""
		for range 1 + r.Intn(3) {
			p += "/" + string("abc"[r.Intn(3)])
		}
		return p
	}
	var e api.Errno
	switch r.Intn(9) {
	case 0, 1:
		_, e = names.Make(s, path(), 1+r.Intn(2))
	case 2:
		_, e = names.Link(s, path(), path())
	case 3:
		_, e = names.Unlink(s, path())
	case 4:
		e = names.Rmdir(s, path())
	case 5:
		_, e = names.Rename(s, path(), path())
	default:
		x, wrong := names.Look(s, path())
		switch {
		case wrong != api.OK || x.Kind != api.File:
			return api.ErrNone
		case r.Intn(2) == 0:
			e = space.Trunc(s, x.Handle.Node, r.Intn(maxSize+1))
		default:
			e = space.Write(s, x.Handle.Node, r.Intn(maxSize), bytes.Repeat([]byte{byte(1 + r.Intn(255))}, r.Intn(300)))
		}
	}
	return e
}

// P16.1, P4: a drive is sound behind all that names and space do, and behind any loss of power, once it is mounted.
func TestWhatStoresDo(t *testing.T) {
	for seed := range int64(12) {
		r := rand.New(rand.NewSource(seed))
		s, d := fresh(t, []int{64, 120, 1024}[seed%3])
		for range 300 {
			if r.Intn(6) == 0 {
				d.Fuse(r.Intn(60))
			}
			e := step(r, s)
			if e == api.OK {
				e = s.Commit()
			}
			if e == api.ErrDown {
				d.Restart()
				s, e = store.Mount(d)
				must(t, "Mount", e)
			}
			s.Drop()
			if e == api.OK {
				same(t, s, d)
			}
			is(t, "Image", Image(d.Image()), api.OK)
			if t.Failed() {
				return
			}
		}
	}
}
