package names

import (
	"math/rand"
	"slices"
	"strconv"
	"strings"
	"testing"

	"copyhold/api"
	"copyhold/space"
	"copyhold/store"
)

// slot: an entry of the model; of an empty one the node is 0.
type slot struct {
	name string
	node int
}

// thing: a node of the model. How many sectors it has follows from size, as it is only ever written without gaps.
type thing struct {
	kind, links, gen, size, change int
	slots                          []slot
}

// model: a tree of names as chapter 15's words have it, without a drive.
type model struct {
	nodes   [manyNode]thing
	gens    int
	sectors int
}

// copied: the same again.
func (m *model) copied() *model {
	c := *m
	for i := range c.nodes {
		c.nodes[i].slots = slices.Clone(m.nodes[i].slots)
	}
	return &c
}

// stat: what is known of a node.
func (m *model) stat(n int) api.Stat {
	x := m.nodes[n]
	return api.Stat{Handle: api.Handle{Node: n, Gen: x.gen}, Kind: x.kind, Links: x.links, Size: x.size, Change: x.change}
}

// find: what has a name in a directory, or 0.
func (m *model) find(dir int, name string) int {
	for _, r := range m.nodes[dir].slots {
		if r.node != 0 && r.name == name {
			return r.node
		}
	}
	return 0
}

// count: how many entries of a directory are not empty.
func (m *model) count(dir int) int {
	n := 0
	for _, r := range m.nodes[dir].slots {
		if r.node != 0 {
			n++
		}
	}
	return n
}

// walk: the nodes on a path.
func (m *model) walk(names []string) ([]int, api.Errno) {
	way := []int{root}
	for _, name := range names {
		dir := way[len(way)-1]
		if m.nodes[dir].kind != api.Dir {
			return nil, api.ErrFile
		}
		n := m.find(dir, name)
		if n == 0 {
			return nil, api.ErrNone
		}
		way = append(way, n)
	}
	return way, api.OK
}

// above: the nodes on the way to a path's directory.
func (m *model) above(names []string) ([]int, api.Errno) {
	if len(names) == 0 {
		return nil, api.ErrDir
	}
	way, e := m.walk(names[:len(names)-1])
	if e == api.OK && m.nodes[way[len(way)-1]].kind != api.Dir {
		return nil, api.ErrFile
	}
	return way, e
}

// owned: how many sectors a node of a size has.
func owned(bytes int) int {
	n := (bytes + size - 1) / size
	switch {
	case n > 12:
		return n + 2 + (n-12+7)/8
	case n > 4:
		return n + 1
	}
	return n
}

// lacking: do all nodes together have more sectors than there are?
func (m *model) lacking() bool {
	n := m.sectors - atData
	for _, x := range m.nodes {
		n -= owned(x.size)
	}
	return n < 0
}

// add: a name comes.
func (m *model) add(dir int, name string, n int) {
	d := &m.nodes[dir]
	d.change++
	for i := range d.slots {
		if d.slots[i].node == 0 {
			d.slots[i] = slot{name, n}
			return
		}
	}
	d.slots = append(d.slots, slot{name, n})
	d.size += entrySize
}

// remove: a name goes.
func (m *model) remove(dir int, name string) {
	d := &m.nodes[dir]
	d.change++
	for i := range d.slots {
		if d.slots[i].name == name {
			d.slots[i] = slot{}
		}
	}
}

// lose: a name goes, and a link of what had it, or all of that.
func (m *model) lose(dir int, name string) {
	x := &m.nodes[m.find(dir, name)]
	m.remove(dir, name)
	x.links--
	x.change++
	if x.links == 0 {
		*x = thing{gen: x.gen, change: x.change}
	}
}

// make: Make by the words.
func (m *model) make(p []string, kind int) (api.Stat, api.Errno) {
	way, e := m.above(p)
	if e != api.OK {
		return api.Stat{}, e
	}
	dir, name := way[len(way)-1], p[len(p)-1]
	if m.find(dir, name) != 0 {
		return api.Stat{}, api.ErrThere
	}
	for n := 1; n < manyNode; n++ {
		if m.nodes[n].kind == 0 {
			m.gens++
			m.nodes[n] = thing{kind: kind, links: 1, gen: m.gens, change: m.nodes[n].change + 1}
			m.add(dir, name, n)
			return m.stat(n), api.OK
		}
	}
	return api.Stat{}, api.ErrFull
}

// link: Link by the words.
func (m *model) link(old, p []string) (api.Stat, api.Errno) {
	from, e := m.walk(old)
	if e != api.OK {
		return api.Stat{}, e
	}
	n := from[len(from)-1]
	if m.nodes[n].kind == api.Dir {
		return api.Stat{}, api.ErrDir
	}
	way, e := m.above(p)
	if e != api.OK {
		return api.Stat{}, e
	}
	dir, name := way[len(way)-1], p[len(p)-1]
	switch {
	case m.find(dir, name) != 0:
		return api.Stat{}, api.ErrThere
	case m.nodes[n].links == manyLink:
		return api.Stat{}, api.ErrFull
	}
	m.add(dir, name, n)
	m.nodes[n].links++
	m.nodes[n].change++
	return m.stat(n), api.OK
}

// unlink: Unlink by the words, and Rmdir.
func (m *model) unlink(p []string, kind int) (api.Stat, api.Errno) {
	way, e := m.above(p)
	if e != api.OK {
		return api.Stat{}, e
	}
	dir, name := way[len(way)-1], p[len(p)-1]
	n := m.find(dir, name)
	switch {
	case n == 0:
		return api.Stat{}, api.ErrNone
	case kind == api.File && m.nodes[n].kind == api.Dir:
		return api.Stat{}, api.ErrDir
	case kind == api.Dir && m.nodes[n].kind != api.Dir:
		return api.Stat{}, api.ErrFile
	case kind == api.Dir && m.count(n) > 0:
		return api.Stat{}, api.ErrEmpty
	}
	was := m.stat(n)
	m.lose(dir, name)
	if kind == api.Dir {
		was = api.Stat{}
	}
	return was, api.OK
}

// rename: Rename by the words.
func (m *model) rename(old, p []string) (api.Stat, api.Errno) {
	from, e := m.above(old)
	if e != api.OK {
		return api.Stat{}, e
	}
	dir, name := from[len(from)-1], old[len(old)-1]
	n := m.find(dir, name)
	if n == 0 {
		return api.Stat{}, api.ErrNone
	}
	to, e := m.above(p)
	if e != api.OK {
		return api.Stat{}, e
	}
	into, other := to[len(to)-1], p[len(p)-1]
	there, isDir := m.find(into, other), m.nodes[n].kind == api.Dir
	switch {
	case isDir && slices.Contains(to, n):
		return api.Stat{}, api.ErrLoop
	case there == n:
		return m.stat(n), api.OK
	case there != 0 && m.nodes[there].kind == api.Dir && !isDir:
		return api.Stat{}, api.ErrDir
	case there != 0 && m.nodes[there].kind != api.Dir && isDir:
		return api.Stat{}, api.ErrFile
	case there != 0 && m.count(there) > 0:
		return api.Stat{}, api.ErrEmpty
	case there != 0:
		m.lose(into, other)
	}
	m.remove(dir, name)
	m.add(into, other, n)
	return m.stat(n), api.OK
}

// agrees: the store is as the model is.
func (m *model) agrees(t *testing.T, what string, s *store.Store) {
	t.Helper()
	free := m.sectors - atData
	for n, x := range m.nodes {
		got := nodeOf(t, s, n)
		if got.Kind != x.kind || got.Links != x.links || got.Gen != x.gen || got.Size != x.size || got.Change != x.change {
			t.Fatalf("%s: node %d is %v, want %v", what, n, got, x)
		}
		free -= owned(x.size)
		if x.kind != api.Dir {
			continue
		}
		var want []string
		for _, r := range x.slots {
			one := ""
			if r.node != 0 {
				one = r.name + " " + strconv.Itoa(r.node)
			}
			want = append(want, one)
		}
		holds(t, what, s, n, want...)
	}
	if s.Free() != free || s.Super().Gens != m.gens {
		t.Errorf("%s: %d are free, want %d; Gens %d, want %d", what, s.Free(), free, s.Super().Gens, m.gens)
	}
}

// somewhere: the names on some path, mostly one on which something is, and it as a text, which may be longer than need be.
func (m *model) somewhere(r *rand.Rand) ([]string, string) {
	var names []string
	for n := root; len(names) < 5 && r.Intn(5+10/(1+len(names))) > 0; {
		there := slices.DeleteFunc(slices.Clone(m.nodes[n].slots), func(x slot) bool { return x.node == 0 })
		if len(there) == 0 {
			break
		}
		one := there[r.Intn(len(there))]
		names, n = append(names, one.name), one.node
	}
	if r.Intn(3) == 0 {
		names = append(names, string([]byte{"abcdefghijkl"[r.Intn(12)]}))
	}
	p := "/" + strings.Join(names, "/")
	if r.Intn(10) == 0 {
		p = []string{"//" + p, "/." + p, p + "/", p + "/.", p + "/x/..", "/../" + p}[r.Intn(6)]
	}
	return names, p
}

func TestAgainstAModel(t *testing.T) {
	for seed := range int64(8) {
		r := rand.New(rand.NewSource(seed))
		s, _ := fresh(t, 64)
		// What is taken at first is nobody's, as if the drive had fewer.
		few := []int{0, 3, 6, 12}[seed%4]
		for range few {
			_, e := s.Take()
			must(t, "Take", e)
		}
		must(t, "Commit", s.Commit())
		m := &model{sectors: 64 - few}
		m.nodes[root] = thing{kind: api.Dir, links: 1}
		seen := map[api.Errno]int{}
		for range 1500 {
			kept := m.copied()
			what, e := m.step(t, r, s)
			seen[e]++
			switch {
			case e != api.OK || r.Intn(8) == 0:
				s.Drop()
				m = kept
			default:
				must(t, "Commit", s.Commit())
			}
			m.agrees(t, what, s)
			if r.Intn(20) == 0 {
				sound(t, what, s, m.sectors)
			}
			if t.Failed() {
				return
			}
		}
		for _, e := range []api.Errno{api.OK, api.ErrNone, api.ErrThere, api.ErrDir, api.ErrFile, api.ErrEmpty, api.ErrLoop} {
			if seen[e] == 0 {
				t.Errorf("seed %d: nothing was answered with %d", seed, e)
			}
		}
	}
}

// step: something is done to the store and the model; its name, and what both answered.
func (m *model) step(t *testing.T, r *rand.Rand, s *store.Store) (string, api.Errno) {
	t.Helper()
	names, p := m.somewhere(r)
	others, other := m.somewhere(r)
	var got, want api.Stat
	var e, f api.Errno
	what := p
	switch r.Intn(11) {
	case 0, 1, 9, 10:
		kind := 1 + r.Intn(2)
		what = "Make " + p
		got, e = Make(s, p, kind)
		want, f = m.make(names, kind)
	case 2:
		what = "Link " + p + " " + other
		got, e = Link(s, p, other)
		want, f = m.link(names, others)
	case 3:
		what = "Unlink " + p
		got, e = Unlink(s, p)
		want, f = m.unlink(names, api.File)
	case 4:
		what = "Rmdir " + p
		e = Rmdir(s, p)
		want, f = m.unlink(names, api.Dir)
	case 5, 6:
		what = "Rename " + p + " " + other
		got, e = Rename(s, p, other)
		want, f = m.rename(names, others)
	case 7:
		what = "Write " + p
		e, f = m.write(t, s, names, p, 1+r.Intn(256))
	case 8:
		what = "Look and List " + p
		got, e = Look(s, p)
		if want, f = m.look(names); f == api.OK && want.Kind == api.Dir && list(t, s, p) != m.list(want.Handle.Node) {
			t.Errorf("%s: %q, want %q", what, list(t, s, p), m.list(want.Handle.Node))
		}
	}
	if f == api.OK && m.lacking() {
		f = api.ErrSpace
	}
	if f != api.OK {
		want = api.Stat{}
	}
	if got != want || e != f {
		t.Errorf("%s: %v, %d, want %v, %d", what, got, e, want, f)
	}
	if x, e := By(s, got.Handle); f == api.OK && !strings.HasPrefix(what, "Unlink") && got.Handle.Node != 0 && (x != got || e != api.OK) {
		t.Errorf("%s: By %v, %d", what, x, e)
	}
	return what, e
}

// look: Look by the words.
func (m *model) look(p []string) (api.Stat, api.Errno) {
	way, e := m.walk(p)
	if e != api.OK {
		return api.Stat{}, e
	}
	return m.stat(way[len(way)-1]), api.OK
}

// list: the names in a directory.
func (m *model) list(dir int) string {
	var names []string
	for _, r := range m.nodes[dir].slots {
		if r.node != 0 {
			names = append(names, r.name)
		}
	}
	slices.Sort(names)
	return strings.Join(names, " ")
}

// write: a file has some bytes at its beginning, so that there are sectors that are to be free with it.
func (m *model) write(t *testing.T, s *store.Store, names []string, p string, count int) (e, f api.Errno) {
	t.Helper()
	x, f := m.look(names)
	if f != api.OK || x.Kind != api.File {
		return f, f
	}
	n := &m.nodes[x.Handle.Node]
	n.size = max(n.size, count)
	n.change++
	return space.Write(s, at(t, s, p).Handle.Node, 0, make([]byte, count)), api.OK
}
