package check

import (
	"bytes"
	"slices"
	"strconv"
	"strings"
	"testing"

	"copyhold/api"
	"copyhold/drive"
	"copyhold/entry"
	"copyhold/marks"
	"copyhold/names"
	"copyhold/node"
	"copyhold/redo"
	"copyhold/seat"
	"copyhold/space"
	"copyhold/store"
	"copyhold/super"
)

// The document's own bounds, not the program's.
const (
	size       = 128
	fewest     = 64
	mostDrive  = 1024
	atHead     = 1
	atBody     = 2
	atSeats    = 26
	atMarks    = 34
	atNodes    = 35
	atData     = 43
	maxSeats   = 8
	manyNode   = 32
	manyLink   = 255
	maxSize    = 9728
	root       = 1
	last       = 1073741824
	allSectors = 200
)

// The nodes of a rich image, and a sector of it that is free.
const (
	dirD  = 2
	fileF = 3
	dirE  = 4
	big   = 5
	none  = 6
	gone  = 7
	spare = 199
)

// is: that is what was answered.
func is(t *testing.T, what string, got, want api.Errno) {
	t.Helper()
	if got != want {
		t.Errorf("%s: %d, want %d", what, got, want)
	}
}

// must: that went well.
func must(t *testing.T, what string, e api.Errno) {
	t.Helper()
	if e != api.OK {
		t.Fatalf("%s: %d", what, e)
	}
}

// fresh: a store on a new drive, and that drive.
func fresh(t *testing.T, sectors int) (*store.Store, *drive.Drive) {
	t.Helper()
	d, e := drive.New(sectors)
	must(t, "New", e)
	must(t, "Make", store.Make(d))
	s, e := store.Mount(d)
	must(t, "Mount", e)
	return s, d
}

// made: a node at a path, with bytes from some place on.
func made(t *testing.T, s *store.Store, p string, kind, at int, data string) int {
	t.Helper()
	x, e := names.Make(s, p, kind)
	must(t, "Make "+p, e)
	must(t, "Write "+p, space.Write(s, x.Handle.Node, at, []byte(data)))
	must(t, "Commit "+p, s.Commit())
	return x.Handle.Node
}

// linked: a path more for what is at another one.
func linked(t *testing.T, s *store.Store, old, p string) {
	t.Helper()
	_, e := names.Link(s, old, p)
	must(t, "Link "+p, e)
	must(t, "Commit "+p, s.Commit())
}

// taken: no file at a path any more.
func taken(t *testing.T, s *store.Store, p string) {
	t.Helper()
	_, e := names.Unlink(s, p)
	must(t, "Unlink "+p, e)
	must(t, "Commit "+p, s.Commit())
}

// raw: sectors that a test changes as it likes.
type raw [][]byte

// rich: the image of a drive with all that there may be.
func rich(t *testing.T) raw {
	t.Helper()
	s, d := fresh(t, allSectors)
	made(t, s, "/d", api.Dir, 0, "")
	made(t, s, "/d/f", api.File, 0, strings.Repeat("f", 300))
	made(t, s, "/d/e", api.Dir, 0, "")
	made(t, s, "/big", api.File, 3, "direct")
	for _, block := range []int{5, 12, 20, 75} {
		must(t, "Write", space.Write(s, big, block*size, bytes.Repeat([]byte{byte(block)}, 100)))
	}
	made(t, s, "/d/none", api.File, 0, "")
	made(t, s, "/gone", api.File, 0, "gone")
	linked(t, s, "/d/f", "/g")
	linked(t, s, "/d/none", "/d/e/k")
	taken(t, s, "/gone")
	m := raw(d.Image())
	is(t, "a rich image", Image(m), api.OK)
	return m
}

// clone: the same again, which shares nothing.
func (m raw) clone() raw {
	c := slices.Clone(m)
	for i, b := range c {
		c[i] = bytes.Clone(b)
	}
	return c
}

// equal: have both the same bytes?
func (m raw) equal(o raw) bool {
	return slices.EqualFunc(m, o, func(a, b []byte) bool { return bytes.Equal(a, b) })
}

// node: a node there.
func (m raw) node(n int) api.Node {
	x, e := node.Get(m[atNodes+n/4], n%4)
	if e != api.OK {
		panic("no node " + strconv.Itoa(n))
	}
	return x
}

// setNode: it is another one.
func (m raw) setNode(n int, change func(x *api.Node)) {
	x := m.node(n)
	change(&x)
	b, e := node.Put(m[atNodes+n/4], n%4, x)
	if e != api.OK {
		panic("no such node " + strconv.Itoa(n))
	}
	m[atNodes+n/4] = b
}

// begin: it begins otherwise.
func (m raw) begin(change func(x *api.Super)) {
	x, _ := super.Decode(m[0])
	change(&x)
	b, e := super.Encode(x)
	if e != api.OK {
		panic("no such super")
	}
	m[0] = b
}

// mark: a sector is marked, or not.
func (m raw) mark(n int, on bool) {
	b, e := marks.Set(m[atMarks], n, on)
	if e != api.OK {
		panic("no such mark " + strconv.Itoa(n))
	}
	m[atMarks] = b
}

// point: a pointer in a sector of them.
func (m raw) point(at, i, to int) {
	m[at][2*i], m[at][2*i+1] = byte(to), byte(to>>8)
}

// pointed: that pointer.
func (m raw) pointed(at, i int) int {
	return int(m[at][2*i]) | int(m[at][2*i+1])<<8
}

// row: an entry of a directory that has one block.
func (m raw) row(dir, i int, name string, n int) {
	b, e := entry.Encode(api.Row{Name: name, Node: n})
	if e != api.OK {
		panic("no such entry " + name)
	}
	copy(m[m.node(dir).Direct[0]][32*i:], b)
}

// where: the number of an entry in a directory that has one block.
func (m raw) where(dir int, name string) int {
	x := m.node(dir)
	list, _ := entry.Slots(m[x.Direct[0]][:x.Size])
	i, ok := entry.Find(list, name)
	if !ok {
		panic("no entry " + name)
	}
	return i
}

// told: what Tree answers, in one line a path.
func told(t *testing.T, m raw) []string {
	t.Helper()
	items, e := Tree(m)
	must(t, "Tree", e)
	var lines []string
	for _, x := range items {
		lines = append(lines, x.Path+" "+strconv.Itoa(x.Node)+" "+strconv.Itoa(x.Kind)+" "+strconv.Itoa(len(x.Data)))
	}
	return lines
}

// tells: that is what Tree answers.
func tells(t *testing.T, what string, m raw, want ...string) {
	t.Helper()
	if got := told(t, m); !slices.Equal(got, want) {
		t.Errorf("%s: %q, want %q", what, got, want)
	}
}

// P16.1: a drive that was just made ready has Root alone.
func TestEmptyDrive(t *testing.T) {
	for _, sectors := range []int{fewest, 100, mostDrive} {
		d, _ := drive.New(sectors)
		is(t, "a drive that is not ready", Image(d.Image()), api.ErrForm)
		must(t, "Make", store.Make(d))
		is(t, "Image", Image(d.Image()), api.OK)
		tells(t, "Tree", d.Image(), "/ 1 2 0")
	}
}

// P16.1: all paths, what is there, and what is in it.
func TestTree(t *testing.T) {
	m := rich(t)
	tells(t, "a rich image", m, "/ 1 2 0", "/big 5 1 9700", "/d 2 2 0", "/d/e 4 2 0", "/d/e/k 6 1 0", "/d/f 3 1 300", "/d/none 6 1 0", "/g 3 1 300")
	items, _ := Tree(m)
	want := make([]byte, 9700)
	copy(want[3:], "direct")
	for _, block := range []int{5, 12, 20, 75} {
		copy(want[block*size:], bytes.Repeat([]byte{byte(block)}, 100))
	}
	if !bytes.Equal(items[1].Data, want) {
		t.Error("big has other bytes")
	}
	if string(items[5].Data) != strings.Repeat("f", 300) || string(items[7].Data) != strings.Repeat("f", 300) {
		t.Error("f has other bytes")
	}
}

// P16.1: paths rise by bytes, of which / is one, and not by names.
func TestOrder(t *testing.T) {
	s, d := fresh(t, allSectors)
	made(t, s, "/b", api.Dir, 0, "")
	for _, p := range []string{"/b/z", "/b0", "/b-", "/b.x", "/B", "/_", "/b/-", "/a", "/b_"} {
		made(t, s, p, api.File, 0, p)
	}
	tells(t, "order", d.Image(), "/ 1 2 0", "/B 7 1 2", "/_ 8 1 2", "/a 10 1 2", "/b 2 2 0", "/b- 5 1 3", "/b.x 6 1 4", "/b/- 9 1 4", "/b/z 3 1 4", "/b0 4 1 3", "/b_ 11 1 3")
}

// P16.1: directories that a Rename brought deeper than paths go are there, too.
func TestDeep(t *testing.T) {
	s, d := fresh(t, allSectors)
	long := "/" + strings.Repeat("n", 24)
	made(t, s, long, api.Dir, 0, "")
	for n := 3; n < manyNode; n++ {
		made(t, s, "/top", api.Dir, 0, "")
		_, e := names.Rename(s, long, "/top"+long)
		must(t, "Rename", e)
		_, e = names.Rename(s, "/top", long)
		must(t, "Rename", e)
		must(t, "Commit", s.Commit())
	}
	want := []string{"/ 1 2 0"}
	for n := manyNode - 1; n > 2; n-- {
		want = append(want, strings.Repeat(long, manyNode-n)+" "+strconv.Itoa(n)+" 2 0")
	}
	tells(t, "deep", d.Image(), append(want, strings.Repeat(long, manyNode-2)+" 2 2 0")...)
}

// P16.1: what is no drive's.
func TestNoDrive(t *testing.T) {
	m := rich(t)
	long := append(m.clone(), make([]byte, size))
	for what, list := range map[string][][]byte{
		"nil":                        nil,
		"none":                       {},
		"one that is nil":            {nil},
		"one":                        {make([]byte, size)},
		"nil ones":                   make([][]byte, fewest),
		"noughts":                    raw(make([][]byte, 1)).grown(allSectors),
		"its beginning alone":        m[:1],
		"as far as the log's head":   m[:2],
		"as far as the seats":        m[:atMarks],
		"as far as the map":          m[:atNodes],
		"as far as the nodes":        m[:atData],
		"one less than there may be": m[:fewest-1],
		"as few as there may be":     m[:fewest],
		"one less":                   m[:len(m)-1],
		"one more":                   long,
		"many more":                  raw(m.clone()).grown(2000),
	} {
		is(t, what, Image(list), api.ErrForm)
		items, e := Tree(list)
		is(t, "Tree of "+what, e, api.ErrForm)
		if items != nil {
			t.Errorf("Tree of %s tells something beside the error", what)
		}
	}
}

// grown: with so many sectors, those that come having noughts.
func (m raw) grown(sectors int) raw {
	for i := range m {
		if m[i] == nil {
			m[i] = make([]byte, size)
		}
	}
	for len(m) < sectors {
		m = append(m, make([]byte, size))
	}
	return m
}

// P16.1: each sector has just as many bytes as there are, wherever it lies.
func TestLengths(t *testing.T) {
	m := rich(t)
	for n := range m {
		for what, b := range map[string][]byte{"nil": nil, "short": m[n][:size-1], "long": append(bytes.Clone(m[n]), 0)} {
			c := slices.Clone(m)
			c[n] = b
			is(t, what+" sector "+strconv.Itoa(n), Image(c), api.ErrForm)
		}
	}
}

// change: something that is done to a rich image.
type change struct {
	what string
	do   func(m raw)
}

// changed: what each change makes of the image, whatever it was.
func changed(t *testing.T, list []change, want api.Errno) {
	t.Helper()
	was := rich(t)
	for _, c := range list {
		m := was.clone()
		c.do(m)
		if m.equal(was) {
			t.Errorf("%s: nothing was changed", c.what)
		}
		is(t, c.what, Image(m), want)
		items, e := Tree(m)
		is(t, "Tree: "+c.what, e, want)
		if (items == nil) != (want != api.OK) {
			t.Errorf("Tree: %s: %d items", c.what, len(items))
		}
	}
}

// P16.1: changes that leave it sound.
func TestSound(t *testing.T) {
	changed(t, []change{
		{"Epoch at its most", func(m raw) { m.begin(func(x *api.Super) { x.Epoch = last }) }},
		{"Epoch 0", func(m raw) { m.begin(func(x *api.Super) { x.Epoch = 0 }) }},
		{"Gens at its most", func(m raw) { m.begin(func(x *api.Super) { x.Gens = last }) }},
		{"Gens at its most, and a node's Gen, too", func(m raw) {
			m.begin(func(x *api.Super) { x.Gens = last })
			m.setNode(fileF, func(x *api.Node) { x.Gen = last })
		}},
		{"a node's Gen as great as Gens", func(m raw) { m.setNode(big, func(x *api.Node) { x.Gen = 6 }) }},
		{"a node's Gen 0", func(m raw) { m.setNode(big, func(x *api.Node) { x.Gen = 0 }) }},
		{"a node's Change", func(m raw) { m.setNode(big, func(x *api.Node) { x.Change = last }) }},
		{"node 0 has Gen and Change", func(m raw) { m.setNode(0, func(x *api.Node) { x.Gen, x.Change = 6, 9 }) }},
		{"a free node's Gen and Change", func(m raw) { m.setNode(gone, func(x *api.Node) { x.Gen, x.Change = 2, 0 }) }},
		{"the log's body", func(m raw) { m[atBody][0], m[atBody+23][127] = ^m[atBody][0], ^m[atBody+23][127] }},
		{"a free sector", func(m raw) { m[spare][5] = 5 }},
		{"a seat", func(m raw) { m[atSeats+7], _ = seat.Encode(api.Seat{Life: 3, Seq: last, Reply: []byte("abc")}) }},
		{"a file's bytes", func(m raw) { m[m.node(fileF).Direct[1]][127] = 7 }},
		{"a file's last byte", func(m raw) { m[m.node(fileF).Direct[2]][43] = 0 }},
		{"a file goes on with noughts, in its last block", func(m raw) { m.setNode(fileF, func(x *api.Node) { x.Size = 384 }) }},
		{"and behind it, without a block", func(m raw) { m.setNode(fileF, func(x *api.Node) { x.Size = maxSize }) }},
		{"a file without its first block", func(m raw) {
			m.mark(m.node(fileF).Direct[0], false)
			m.setNode(fileF, func(x *api.Node) { x.Direct[0] = 0 })
		}},
		{"a file without its last block", func(m raw) {
			m.mark(m.node(fileF).Direct[2], false)
			m.setNode(fileF, func(x *api.Node) { x.Direct[2] = 0 })
		}},
		{"a file whose blocks are in another order", func(m raw) {
			m.setNode(fileF, func(x *api.Node) { x.Direct[0], x.Direct[1] = x.Direct[1], x.Direct[0] })
		}},
		{"a directory with an empty entry more", func(m raw) { m.setNode(dirE, func(x *api.Node) { x.Size = 64 }) }},
		{"a directory with a block of empty ones more, which is not there", func(m raw) { m.setNode(dirE, func(x *api.Node) { x.Size = 256 }) }},
		{"a directory whose entries lie behind a block that is not there", func(m raw) {
			m.setNode(dirE, func(x *api.Node) { x.Size, x.Direct[0], x.Direct[1] = 160, 0, x.Direct[0] })
		}},
		{"a directory of empty entries alone", func(m raw) {
			m.row(root, 2, "k", none)
			copy(m[m.node(dirE).Direct[0]], make([]byte, 32))
		}},
		{"names that change places", func(m raw) {
			i, j := m.where(root, "d"), m.where(root, "g")
			m.row(root, j, "d", fileF)
			m.row(root, i, "g", dirD)
		}},
	}, api.OK)
}

// P16.1: sectors that are not ready, or whose log has something left to be done.
func TestNotReady(t *testing.T) {
	list := []change{
		{"the beginning's sign", func(m raw) { m[0][0] = 'X' }},
		{"the beginning's sum", func(m raw) { m[0][127]++ }},
		{"another number of sectors", func(m raw) { m.begin(func(x *api.Super) { x.Sectors-- }) }},
		{"the most sectors", func(m raw) { m.begin(func(x *api.Super) { x.Sectors = mostDrive }) }},
		{"no head", func(m raw) { m[atHead] = make([]byte, size) }},
		{"the head's sign", func(m raw) { m[atHead][0] = 'X' }},
		{"the head's sum", func(m raw) { m[atHead][124]++ }},
		{"a head with a number", func(m raw) { m[atHead], _ = redo.Head(spare) }},
		{"a head with many", func(m raw) { m[atHead], _ = redo.Head(0, 34, 35, 36, 37, 38, 39, 40, 41, 42, 43) }},
		{"no map", func(m raw) { m[atMarks] = make([]byte, size) }},
	}
	for n := range maxSeats {
		list = append(list,
			change{"no seat " + strconv.Itoa(n), func(m raw) { m[atSeats+n] = make([]byte, size) }},
			change{"the sum of seat " + strconv.Itoa(n), func(m raw) { m[atSeats+n][125]++ }})
	}
	changed(t, list, api.ErrForm)
}

// P16.1: what is no node, or may not be one there.
func TestNodes(t *testing.T) {
	var list []change
	for n := range manyNode {
		at, from := atNodes+n/4, n%4*32
		name := strconv.Itoa(n)
		list = append(list,
			change{"a kind that is none, node " + name, func(m raw) { m[at][from] = 3 }},
			change{"a byte behind the pointers, node " + name, func(m raw) { m[at][from+26] = 1 }},
			change{"the last byte, node " + name, func(m raw) { m[at][from+31] = 1 }},
			change{"too great a Change, node " + name, func(m raw) { m[at][from+13] = 0x41 }},
			change{"too great a Gen, node " + name, func(m raw) { m[at][from+5] = 0x41 }},
			change{"a Gen above Gens, node " + name, func(m raw) { m.setNode(n, func(x *api.Node) { x.Gen = 7 }) }},
			change{"a pointer below the first one, node " + name, func(m raw) { m[at][from+14] = 42 }},
			change{"a pointer above the last one, node " + name, func(m raw) { m[at][from+24], m[at][from+25] = 0, 4 }})
	}
	for _, n := range []int{dirD, fileF, dirE, big, none, root} {
		list = append(list, change{"no node " + strconv.Itoa(n), func(m raw) { m.setNode(n, func(x *api.Node) { *x = api.Node{} }) }})
	}
	changed(t, append(list,
		change{"Gens below a node's Gen", func(m raw) { m.begin(func(x *api.Super) { x.Gens = 5 }) }},
		change{"Gens below a free node's Gen", func(m raw) {
			for _, n := range []int{root, dirD, fileF, dirE, big, none} {
				m.setNode(n, func(x *api.Node) { x.Gen = 1 })
			}
			m.begin(func(x *api.Super) { x.Gens = 5 })
		}},
		change{"Root's Size is no multiple of an entry's", func(m raw) { m[35][32+6]++ }},
		change{"a directory has two Links", func(m raw) { m[35][64+1] = 2 }},
		change{"a file has none", func(m raw) { m[35][96+1] = 0 }},
		change{"Root is a file", func(m raw) { m.setNode(root, func(x *api.Node) { x.Kind = api.File }) }},
		change{"node 0 is a file", func(m raw) { m.setNode(0, func(x *api.Node) { x.Kind, x.Links = api.File, 1 }) }},
		change{"node 0 is a directory", func(m raw) { m.setNode(0, func(x *api.Node) { x.Kind, x.Links = api.Dir, 1 }) }},
		change{"a free node has a sector", func(m raw) {
			m[36][96+14] = 199
			m.mark(spare, true)
		}},
	), api.ErrForm)
}

// P16.1: where nothing but Root is there, Root is what makes it a tree.
func TestRoot(t *testing.T) {
	_, d := fresh(t, fewest)
	for what, x := range map[string]api.Node{
		"free":   {},
		"a file": {Kind: api.File, Links: 1},
		"moved":  {Kind: api.Dir, Links: 1},
	} {
		m := raw(d.Image())
		m.setNode(root, func(r *api.Node) { *r = x })
		if what == "moved" {
			m.setNode(root, func(r *api.Node) { *r = api.Node{} })
			m.setNode(dirD, func(r *api.Node) { *r = x })
		}
		is(t, "Root "+what, Image(m), api.ErrForm)
	}
}

// P16.1: what directories may not hold.
func TestEntries(t *testing.T) {
	changed(t, []change{
		{"a byte behind a name", func(m raw) { m[m.node(root).Direct[0]][20] = 1 }},
		{"a byte behind a number", func(m raw) { m[m.node(root).Direct[0]][31] = 1 }},
		{"a byte in an empty one", func(m raw) { m[m.node(root).Direct[0]][64+25] = 1 }},
		{"a name that is none", func(m raw) { m[m.node(root).Direct[0]][1] = '/' }},
		{"a name without bytes", func(m raw) { m[m.node(root).Direct[0]][0] = 0 }},
		{"a name of two points", func(m raw) { copy(m[m.node(root).Direct[0]], []byte{2, '.', '.'}) }},
		{"node 0", func(m raw) { m[m.node(root).Direct[0]][25] = 0 }},
		{"node 32", func(m raw) { m[m.node(root).Direct[0]][25] = 32 }},
		{"a name twice", func(m raw) { m.row(root, 2, "d", none); m.setNode(none, func(x *api.Node) { x.Links = 3 }) }},
		{"a name twice, of one file", func(m raw) { m.row(root, 2, "g", fileF); m.setNode(fileF, func(x *api.Node) { x.Links = 3 }) }},
		{"a free node", func(m raw) { m.row(root, 2, "x", gone) }},
		{"a free node instead of a file", func(m raw) {
			m.row(dirD, m.where(dirD, "none"), "none", gone)
			m.setNode(none, func(x *api.Node) { x.Links = 1 })
		}},
		{"Root, in itself", func(m raw) { m.row(root, 2, "x", root) }},
		{"Root, below itself", func(m raw) {
			m.row(dirE, 0, "k", root)
			m.setNode(none, func(x *api.Node) { x.Links = 1 })
		}},
		{"a file's entry more than Links", func(m raw) { m.row(root, 2, "x", none) }},
		{"one less than Links", func(m raw) { m.setNode(fileF, func(x *api.Node) { x.Links = 3 }) }},
		{"one more, as Links are less", func(m raw) { m.setNode(fileF, func(x *api.Node) { x.Links = 1 }) }},
		{"one more of a file, and one less of another one", func(m raw) { m.row(root, 2, "x", fileF); copy(m[m.node(dirE).Direct[0]], make([]byte, 32)) }},
		{"a directory's second one", func(m raw) { m.row(root, 2, "x", dirE) }},
		{"a directory's own", func(m raw) {
			m.row(dirE, 0, "k", dirE)
			m.row(dirD, m.where(dirD, "e"), "e", none)
		}},
		{"directories in a ring", func(m raw) {
			m.row(dirE, 0, "k", dirD)
			m.row(root, m.where(root, "d"), "d", none)
		}},
		{"a file without an entry", func(m raw) { m.setNode(gone, func(x *api.Node) { x.Kind, x.Links = api.File, 1 }) }},
		{"a directory without an entry", func(m raw) { m.setNode(gone, func(x *api.Node) { x.Kind, x.Links = api.Dir, 1 }) }},
		{"an entry behind the directory's end", func(m raw) { m.setNode(dirE, func(x *api.Node) { x.Size = 0 }) }},
	}, api.ErrForm)
}

// P16.1: pointers that are none, or to what is not there, or not the node's own.
func TestPointers(t *testing.T) {
	inner := func(m raw) int { return m.pointed(m.node(big).Two, 1) }
	changed(t, []change{
		{"a byte behind One's", func(m raw) { m[m.node(big).One][16] = 1 }},
		{"the last byte of Two's", func(m raw) { m[m.node(big).Two][127] = 1 }},
		{"a byte behind those of one of Two's", func(m raw) { m[inner(m)][20] = 1 }},
		{"one of One's below the first sector", func(m raw) { m.point(m.node(big).One, 0, atData-1) }},
		{"one of Two's above the last one", func(m raw) { m.point(m.node(big).Two, 7, mostDrive) }},
		{"one of those behind Two's above the last one", func(m raw) { m.point(inner(m), 0, 65535) }},
		{"a block that no drive of so many sectors has", func(m raw) {
			m.mark(m.node(fileF).Direct[0], false)
			m.mark(allSectors, true)
			m.setNode(fileF, func(x *api.Node) { x.Direct[0] = allSectors })
		}},
		{"pointers there", func(m raw) { m.setNode(fileF, func(x *api.Node) { x.One = mostDrive - 1 }) }},
		{"a block there behind One's", func(m raw) {
			m.point(m.node(big).One, 7, mostDrive-1)
			m.mark(mostDrive-1, true)
		}},
		{"a block that another one has", func(m raw) {
			m.mark(m.node(fileF).Direct[1], false)
			m.setNode(fileF, func(x *api.Node) { x.Direct[1] = m.node(big).Direct[0] })
		}},
		{"a block that one has twice", func(m raw) { m.setNode(big, func(x *api.Node) { x.Direct[1] = x.Direct[0] }) }},
		{"a block twice behind One's", func(m raw) { m.point(m.node(big).One, 0, m.pointed(m.node(big).One, 1)) }},
		{"a block that has Two's pointers", func(m raw) { m.setNode(big, func(x *api.Node) { x.Direct[1] = x.Two }) }},
		{"a block that has a directory's bytes", func(m raw) { m.setNode(big, func(x *api.Node) { x.Direct[1] = m.node(dirE).Direct[0] }) }},
		{"One is Two", func(m raw) { m.setNode(big, func(x *api.Node) { x.One = x.Two }) }},
		{"Two's pointers are their own", func(m raw) { m.point(m.node(big).Two, 2, m.node(big).Two) }},
		{"two of Two's are one", func(m raw) { m.point(m.node(big).Two, 2, inner(m)) }},
	}, api.ErrForm)
}

// P16.1: what belongs to nodes, and what lies ahead of that, is marked, and nothing else.
func TestMarks(t *testing.T) {
	was := rich(t)
	for n := range mostDrive {
		m := was.clone()
		on, _ := marks.Has(m[atMarks], n)
		m.mark(n, !on)
		is(t, "mark "+strconv.Itoa(n), Image(m), api.ErrForm)
	}
}

// P16.1: what lies behind a node's end.
func TestBehind(t *testing.T) {
	changed(t, []change{
		{"a block, one behind the last", func(m raw) { m.mark(spare, true); m.setNode(fileF, func(x *api.Node) { x.Direct[3] = spare }) }},
		{"a block of an empty file", func(m raw) { m.mark(spare, true); m.setNode(none, func(x *api.Node) { x.Direct[0] = spare }) }},
		{"the last block, as there is a byte less", func(m raw) {
			m[m.node(fileF).Direct[2]] = make([]byte, size)
			m.setNode(fileF, func(x *api.Node) { x.Size = 256 })
		}},
		{"a block of a directory", func(m raw) { m.mark(spare, true); m.setNode(dirE, func(x *api.Node) { x.Direct[1] = spare }) }},
		{"a block behind One's", func(m raw) {
			m.mark(spare, true)
			m.mark(spare-1, true)
			m.point(spare, 0, spare-1)
			m.setNode(fileF, func(x *api.Node) { x.One = spare })
		}},
		{"pointers without one", func(m raw) { m.mark(spare, true); m.setNode(fileF, func(x *api.Node) { x.One = spare }) }},
		{"pointers of pointers without one", func(m raw) { m.mark(spare, true); m.setNode(fileF, func(x *api.Node) { x.Two = spare }) }},
		{"pointers of pointers without one, of a great file", func(m raw) {
			m.mark(spare, true)
			m.setNode(none, func(x *api.Node) { x.Size, x.Two = maxSize, spare })
		}},
		{"pointers without one, within the end", func(m raw) { m.mark(spare, true); m.point(m.node(big).Two, 3, spare) }},
		{"pointers that have lost theirs", func(m raw) {
			m.mark(m.pointed(m.node(big).One, 1), false)
			m.point(m.node(big).One, 1, 0)
		}},
		{"a byte just behind the end", func(m raw) { m[m.node(fileF).Direct[2]][44] = 1 }},
		{"the last byte of the last block", func(m raw) { m[m.node(fileF).Direct[2]][127] = 1 }},
		{"a byte that the end was ahead of", func(m raw) { m.setNode(fileF, func(x *api.Node) { x.Size = 299 }) }},
		{"a byte behind the end of the last block of all", func(m raw) { m[m.pointed(m.pointed(m.node(big).Two, 7), 7)][100] = 1 }},
		{"a byte behind a directory's end", func(m raw) { m[m.node(dirE).Direct[0]][32] = 1 }},
		{"an entry behind a directory's end", func(m raw) { m.row(dirE, 1, "x", none) }},
	}, api.ErrForm)
}

// P16.1: a file whose end is a block's has nothing behind it, however full that block is.
func TestWholeBlocks(t *testing.T) {
	s, d := fresh(t, allSectors)
	made(t, s, "/f", api.File, 0, strings.Repeat("f", 4*size))
	is(t, "four blocks", Image(d.Image()), api.OK)
	for at := 4 * size; at < maxSize; at += 2 * size {
		must(t, "Write", space.Write(s, 2, at, bytes.Repeat([]byte{7}, 2*size)))
		must(t, "Commit", s.Commit())
		is(t, "blocks as far as "+strconv.Itoa(at), Image(d.Image()), api.OK)
	}
	items, e := Tree(d.Image())
	must(t, "Tree", e)
	if len(items) != 2 || len(items[1].Data) != maxSize || bytes.Count(items[1].Data, []byte{7}) != maxSize-4*size {
		t.Errorf("%d items", len(items))
	}
}

// P16.1: a file has as many names as it may.
func TestManyNames(t *testing.T) {
	s, d := fresh(t, mostDrive)
	made(t, s, "/f", api.File, 0, "many")
	for n := 1; n < manyLink; n++ {
		linked(t, s, "/f", "/f"+strconv.Itoa(n))
	}
	items, e := Tree(d.Image())
	must(t, "Tree", e)
	if len(items) != manyLink+1 {
		t.Fatalf("%d items", len(items))
	}
	for i := range items {
		if i > 0 && (items[i].Node != 2 || string(items[i].Data) != "many") {
			t.Errorf("%s is another one", items[i].Path)
		}
		// Each has bytes of its own, with its room.
		items[i].Data = append(items[i].Data[:0], "xxxxxxxx"...)
	}
	m := raw(d.Image())
	m.setNode(2, func(x *api.Node) { x.Links-- })
	is(t, "one more than it tells", Image(m), api.ErrForm)
}

// R4: what is handed in is neither changed nor kept, what is answered shares nothing.
func TestMemory(t *testing.T) {
	m := rich(t)
	room := make([]byte, 0, 3*len(m)*size)
	list := make([][]byte, 0, 2*len(m))
	for _, b := range m {
		room = append(append(room, b...), 0xee)
		list = append(list, room[len(room)-1-size:len(room)-1])
	}
	whole, many := bytes.Clone(room[:cap(room)]), raw(list).clone()
	want := told(t, m)
	items, e := Tree(list)
	must(t, "Tree", e)
	is(t, "Image", Image(list), api.OK)
	if !bytes.Equal(room[:cap(room)], whole) || !raw(list).equal(many) || slices.ContainsFunc(list[len(list):cap(list)], func(b []byte) bool { return b != nil }) {
		t.Error("what was handed in was changed")
	}
	for i := range items {
		for j, c := range items[i].Data[:cap(items[i].Data)] {
			items[i].Data[:cap(items[i].Data)][j] = ^c
		}
		items[i] = Item{}
	}
	if !bytes.Equal(room[:cap(room)], whole) {
		t.Error("what was answered shares bytes with what was handed in")
	}
	if got := told(t, list); !slices.Equal(got, want) {
		t.Errorf("%q, want %q", got, want)
	}
	f, _ := Tree(list)
	if f[5].Path != "/d/f" || f[7].Path != "/g" || &f[5].Data[0] == &f[7].Data[0] {
		t.Error("two items share their bytes")
	}
	clear(f[5].Data)
	if f[7].Data[0] != 'f' || f[5].Node != f[7].Node {
		t.Error("two items share their bytes")
	}
}

// R3: of directories there is no Data, however many bytes they have.
func TestNoData(t *testing.T) {
	items, e := Tree(rich(t))
	must(t, "Tree", e)
	for _, x := range items {
		if x.Kind == api.Dir && len(x.Data) != 0 {
			t.Errorf("%s has Data", x.Path)
		}
	}
}
