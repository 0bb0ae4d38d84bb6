package names

import (
	"bytes"
	"math"
	"slices"
	"strconv"
	"strings"
	"testing"

	"copyhold/api"
	"copyhold/drive"
	"copyhold/space"
	"copyhold/store"
)

// The document's own bounds, not the program's.
const (
	size      = 128
	logSize   = 24
	entrySize = 32
	maxName   = 24
	maxPath   = 96
	maxSize   = 9728
	most      = 304
	manyNode  = 32
	manyLink  = 255
	atNodes   = 35
	atData    = 43
	root      = 1
	last      = 1073741824
)

// is: that is what was answered.
func is(t *testing.T, what string, got, want api.Errno) {
	t.Helper()
	if got != want {
		t.Errorf("%s: %d, want %d", what, got, want)
	}
}

// must: that went well.
func must(t *testing.T, what string, e api.Errno) {
	t.Helper()
	if e != api.OK {
		t.Fatalf("%s: %d", what, e)
	}
}

// fresh: a store on a new drive, and that drive.
func fresh(t *testing.T, sectors int) (*store.Store, *drive.Drive) {
	t.Helper()
	d, e := drive.New(sectors)
	must(t, "New", e)
	must(t, "Make", store.Make(d))
	s, e := store.Mount(d)
	must(t, "Mount", e)
	return s, d
}

// grown: a store with these paths, directories where they end with /, which last.
func grown(t *testing.T, sectors int, paths ...string) *store.Store {
	t.Helper()
	s, _ := fresh(t, sectors)
	for _, p := range paths {
		kind := api.File
		if strings.HasSuffix(p, "/") {
			kind = api.Dir
		}
		_, e := Make(s, p, kind)
		must(t, "Make "+p, e)
		must(t, "Commit", s.Commit())
	}
	return s
}

// at: what is at a path.
func at(t *testing.T, s *store.Store, p string) api.Stat {
	t.Helper()
	x, e := Look(s, p)
	must(t, "Look "+p, e)
	return x
}

// nodeOf: a node, as it will be.
func nodeOf(t *testing.T, s *store.Store, n int) api.Node {
	t.Helper()
	x, e := s.Node(n)
	must(t, "Node", e)
	return x
}

// slots: a directory's entries by chapter 12's words, read without the package: a name and a number, or nothing.
func slots(t *testing.T, s *store.Store, n int) []string {
	t.Helper()
	b, e := space.Read(s, n, 0, maxSize)
	must(t, "Read", e)
	var list []string
	for part := range slices.Chunk(b, entrySize) {
		if bytes.Count(part, []byte{0}) == entrySize {
			list = append(list, "")
			continue
		}
		if len(part) != entrySize || bytes.Count(part[1+part[0]:], []byte{0}) != entrySize-2-int(part[0]) {
			t.Errorf("directory %d has an entry %v", n, part)
			return nil
		}
		list = append(list, string(part[1:1+part[0]])+" "+strconv.Itoa(int(part[25])))
	}
	return list
}

// holds: a directory's entries are these, in this order.
func holds(t *testing.T, what string, s *store.Store, n int, want ...string) {
	t.Helper()
	if got := slots(t, s, n); !slices.Equal(got, want) {
		t.Errorf("%s: directory %d holds %q, want %q", what, n, got, want)
	}
}

// list: the names at a path.
func list(t *testing.T, s *store.Store, p string) string {
	t.Helper()
	names, e := List(s, p)
	must(t, "List "+p, e)
	return strings.Join(names, " ")
}

// answer: what a call came to, whichever it was.
type answer struct {
	stat  api.Stat
	names []string
	e     api.Errno
}

// call: a call with all but its store.
type call struct {
	what string
	do   func(s *store.Store) answer
}

// told: an answer with a Stat.
func told(x api.Stat, e api.Errno) answer { return answer{stat: x, e: e} }

// calls: each call with a path, and with another one where it has two.
func calls(old, p string) []call {
	return []call{
		{"Look", func(s *store.Store) answer { return told(Look(s, old)) }},
		{"Make of a file", func(s *store.Store) answer { return told(Make(s, old, api.File)) }},
		{"Make of a directory", func(s *store.Store) answer { return told(Make(s, old, api.Dir)) }},
		{"Make of nothing", func(s *store.Store) answer { return told(Make(s, old, 0)) }},
		{"Link", func(s *store.Store) answer { return told(Link(s, old, p)) }},
		{"Unlink", func(s *store.Store) answer { return told(Unlink(s, old)) }},
		{"Rmdir", func(s *store.Store) answer { return answer{e: Rmdir(s, old)} }},
		{"Rename", func(s *store.Store) answer { return told(Rename(s, old, p)) }},
		{"List", func(s *store.Store) answer { l, e := List(s, old); return answer{names: l, e: e} }},
		{"By", func(s *store.Store) answer { return told(By(s, api.Handle{Node: 1})) }},
		{"By of none", func(s *store.Store) answer { return told(By(s, api.Handle{Node: -1})) }},
	}
}

// fails: an error, and nothing beside it.
func fails(t *testing.T, what string, got answer, want api.Errno) {
	t.Helper()
	if got.e != want || got.stat != (api.Stat{}) || len(got.names) != 0 {
		t.Errorf("%s: %v, want %d alone", what, got, want)
	}
}

func TestNobody(t *testing.T) {
	for _, p := range []string{"/", "/a", "a", "", strings.Repeat("/", 200)} {
		for _, c := range calls(p, p) {
			fails(t, c.what+" of a nil Store", c.do(nil), api.ErrArg)
			fails(t, c.what+" of an empty Store", c.do(&store.Store{}), api.ErrArg)
		}
	}
}

func TestAStoreIsDown(t *testing.T) {
	for _, noted := range []bool{false, true} {
		s, d := fresh(t, 64)
		_, e := Make(s, "/a", api.File)
		must(t, "Make", e)
		must(t, "Commit", s.Commit())
		d.Fuse(0)
		d.Flush()
		if noted {
			s.Get(0)
			d.Restart()
		}
		for _, p := range []string{"/", "/a", "/q", "a", "/a/b"} {
			for _, c := range calls(p, p) {
				fails(t, c.what+" of "+p, c.do(s), api.ErrDown)
			}
		}
	}
}

func TestPathsThatAreNone(t *testing.T) {
	long := "/" + strings.Repeat("a", maxName+1)
	deep := strings.Repeat("/a", 9)
	s := grown(t, 64, "/f", "/d/", "/d/g")
	for _, c := range []struct {
		p    string
		want api.Errno
	}{
		{"", api.ErrText}, {"f", api.ErrText}, {"./f", api.ErrText}, {"/f g", api.ErrName}, {"/f\x00", api.ErrName}, {"/q/\xff", api.ErrName},
		{long, api.ErrName}, {deep, api.ErrRange}, {deep + "/..", api.ErrRange}, {strings.Repeat("/", maxPath+1), api.ErrLarge}, {strings.Repeat("f", maxPath+1), api.ErrLarge},
	} {
		for _, d := range calls(c.p, "/new") {
			if !strings.HasPrefix(d.what, "By") && d.what != "Make of nothing" {
				fails(t, d.what+" of "+c.p, d.do(s), c.want)
			}
		}
		fails(t, "Make of nothing at "+c.p, told(Make(s, c.p, 3)), api.ErrArg)
		fails(t, "Link to "+c.p, told(Link(s, "/f", c.p)), c.want)
		fails(t, "Rename to "+c.p, told(Rename(s, "/f", c.p)), c.want)
		fails(t, "Rename to "+c.p, told(Rename(s, "/d", c.p)), c.want)
		fails(t, "Link of none to "+c.p, told(Link(s, "/q", c.p)), api.ErrNone)
		fails(t, "Rename of none to "+c.p, told(Rename(s, "/q", c.p)), api.ErrNone)
	}
	if got := list(t, s, "/"); got != "d f" {
		t.Error("behind errors there are", got)
	}
}

func TestWalk(t *testing.T) {
	s := grown(t, 64, "/a/", "/a/b/", "/a/b/f", "/g")
	for _, c := range []struct {
		p    string
		want api.Errno
		node int
	}{
		{"/", api.OK, root}, {"//", api.OK, root}, {"/.", api.OK, root}, {"/..", api.OK, root}, {"/a/..", api.OK, root}, {"/q/..", api.OK, root},
		{"/a", api.OK, 2}, {"/a/", api.OK, 2}, {"//a/./b/..", api.OK, 2}, {"/a/b", api.OK, 3}, {"/a/b/f", api.OK, 4}, {"/g", api.OK, 5}, {"/g/", api.OK, 5},
		{"/a/b/f/../f", api.OK, 4}, {"/g/x/../../a", api.OK, 2},
		{"/q", api.ErrNone, 0}, {"/A", api.ErrNone, 0}, {"/a/q", api.ErrNone, 0}, {"/b", api.ErrNone, 0}, {"/q/a", api.ErrNone, 0}, {"/a/q/f", api.ErrNone, 0},
		{"/g/x", api.ErrFile, 0}, {"/g/g", api.ErrFile, 0}, {"/a/b/f/x", api.ErrFile, 0}, {"/a/b/f/x/y/z", api.ErrFile, 0}, {"/q/g/x", api.ErrNone, 0},
	} {
		x, e := Look(s, c.p)
		if e != c.want || x.Handle.Node != c.node {
			t.Errorf("Look %s: %v, %d, want node %d, %d", c.p, x, e, c.node, c.want)
		}
		if _, e := List(s, c.p); c.node == 0 {
			is(t, "List "+c.p, e, c.want)
		}
		if _, e := Link(s, c.p, "/new"); c.node == 0 {
			is(t, "Link "+c.p, e, c.want)
		}
	}
}

func TestLook(t *testing.T) {
	s := grown(t, 64)
	if x := at(t, s, "/"); x != (api.Stat{Handle: api.Handle{Node: root}, Kind: api.Dir, Links: 1}) {
		t.Error("Root:", x)
	}
	s = grown(t, 64, "/d/", "/f")
	must(t, "Write", space.Write(s, 3, 0, []byte("hello")))
	for p, want := range map[string]api.Stat{
		"/":  {Handle: api.Handle{Node: root}, Kind: api.Dir, Links: 1, Size: 64, Change: 2},
		"/d": {Handle: api.Handle{Node: 2, Gen: 1}, Kind: api.Dir, Links: 1, Change: 1},
		"/f": {Handle: api.Handle{Node: 3, Gen: 2}, Kind: api.File, Links: 1, Size: 5, Change: 2},
	} {
		if x := at(t, s, p); x != want {
			t.Errorf("Look %s: %v, want %v", p, x, want)
		}
	}
}

func TestList(t *testing.T) {
	s := grown(t, 64, "/d/", "/z", "/Z", "/a.b", "/_", "/-", "/9", "/d/x")
	if got := list(t, s, "/"); got != "- 9 Z _ a.b d z" {
		t.Error("List /:", got)
	}
	if got := list(t, s, "/d/."); got != "x" {
		t.Error("List /d:", got)
	}
	fails(t, "List of a file", func() answer { l, e := List(s, "/z"); return answer{names: l, e: e} }(), api.ErrFile)
	_, e := Unlink(s, "/d/x")
	must(t, "Unlink", e)
	if got := list(t, s, "/d"); got != "" {
		t.Error("List of what is empty:", got)
	}
	one, _ := List(s, "/")
	two, _ := List(s, "/")
	clear(one[:cap(one)])
	if !slices.Equal(two, []string{"-", "9", "Z", "_", "a.b", "d", "z"}) || list(t, s, "/") != "- 9 Z _ a.b d z" {
		t.Error("two answers share memory:", two)
	}
}

func TestBy(t *testing.T) {
	s := grown(t, 64, "/f", "/d/")
	for _, p := range []string{"/", "/f", "/d"} {
		x := at(t, s, p)
		if y, e := By(s, x.Handle); y != x || e != api.OK {
			t.Errorf("By of %s: %v, %d", p, y, e)
		}
	}
	for _, h := range []api.Handle{
		{Node: 0}, {Node: -1}, {Node: manyNode}, {Node: math.MaxInt}, {Node: math.MinInt, Gen: 1}, {Node: 4}, {Node: 31}, {Node: 31, Gen: 1},
		{Node: 2}, {Node: 2, Gen: 2}, {Node: 2, Gen: -1}, {Node: 2, Gen: 1 + 1<<32}, {Node: 1, Gen: 1}, {Node: 3, Gen: 1}, {Node: 3, Gen: math.MaxInt},
	} {
		fails(t, "By of no node", told(By(s, h)), api.ErrStale)
	}
	must(t, "SetNode", s.SetNode(0, api.Node{Kind: api.File, Links: 1, Gen: 7}))
	fails(t, "By of the first node, which nobody has", told(By(s, api.Handle{Gen: 7})), api.ErrStale)
	s.Drop()
	was := at(t, s, "/f").Handle
	_, e := Unlink(s, "/f")
	must(t, "Unlink", e)
	fails(t, "By of what is gone", told(By(s, was)), api.ErrStale)
	_, e = Make(s, "/f", api.File)
	must(t, "Make", e)
	fails(t, "By of what is gone", told(By(s, was)), api.ErrStale)
	if x, e := By(s, api.Handle{Node: 2, Gen: 3}); x != at(t, s, "/f") || e != api.OK {
		t.Error("By of what was made anew:", x, e)
	}
}

func TestMake(t *testing.T) {
	s := grown(t, 64)
	for i, c := range []struct {
		p    string
		kind int
		want api.Stat
	}{
		{"/d", api.Dir, api.Stat{Handle: api.Handle{Node: 2, Gen: 1}, Kind: api.Dir, Links: 1, Change: 1}},
		{"/f", api.File, api.Stat{Handle: api.Handle{Node: 3, Gen: 2}, Kind: api.File, Links: 1, Change: 1}},
		{"/d//./e/", api.Dir, api.Stat{Handle: api.Handle{Node: 4, Gen: 3}, Kind: api.Dir, Links: 1, Change: 1}},
		{"/d/e/f", api.File, api.Stat{Handle: api.Handle{Node: 5, Gen: 4}, Kind: api.File, Links: 1, Change: 1}},
		{"/f/../d/f", api.File, api.Stat{Handle: api.Handle{Node: 6, Gen: 5}, Kind: api.File, Links: 1, Change: 1}},
	} {
		x, e := Make(s, c.p, c.kind)
		if x != c.want || e != api.OK {
			t.Errorf("Make %d: %v, %d, want %v", i, x, e, c.want)
		}
		if y := at(t, s, c.p); y != c.want {
			t.Errorf("Look behind Make %d: %v", i, y)
		}
		must(t, "Commit", s.Commit())
	}
	holds(t, "Make", s, root, "d 2", "f 3")
	holds(t, "Make", s, 2, "e 4", "f 6")
	holds(t, "Make", s, 4, "f 5")
	for n, want := range map[int]int{root: 2, 2: 3, 4: 2, 3: 1, 5: 1} {
		if got := nodeOf(t, s, n).Change; got != want {
			t.Errorf("Change of node %d: %d, want %d", n, got, want)
		}
	}
	if s.Free() != 18 {
		t.Error("free:", s.Free())
	}
}

func TestMakeWrongly(t *testing.T) {
	s := grown(t, 64, "/d/", "/f", "/d/g")
	for _, c := range []struct {
		p    string
		kind int
		want api.Errno
	}{
		{"/f", api.File, api.ErrThere}, {"/f", api.Dir, api.ErrThere}, {"/d", api.File, api.ErrThere}, {"/d/", api.Dir, api.ErrThere}, {"/d/g", api.Dir, api.ErrThere},
		{"/", api.File, api.ErrDir}, {"/d/..", api.Dir, api.ErrDir}, {"/q/x", api.File, api.ErrNone}, {"/d/q/x", api.Dir, api.ErrNone},
		{"/f/x", api.File, api.ErrFile}, {"/f/f", api.Dir, api.ErrFile}, {"/d/g/x", api.Dir, api.ErrFile}, {"/f/x/y", api.File, api.ErrFile},
		{"/x", 0, api.ErrArg}, {"/x", 3, api.ErrArg}, {"/x", -1, api.ErrArg}, {"/x", math.MinInt, api.ErrArg}, {"/x", 1 + 1<<32, api.ErrArg},
		{"/f", 3, api.ErrArg}, {"/", 3, api.ErrArg}, {"/q/x", 3, api.ErrArg}, {"/f/x", 3, api.ErrArg},
	} {
		fails(t, "Make of "+c.p, told(Make(s, c.p, c.kind)), c.want)
		s.Drop()
	}
	if list(t, s, "/") != "d f" || list(t, s, "/d") != "g" {
		t.Error("behind errors:", list(t, s, "/"), list(t, s, "/d"))
	}
}

// filled: a store all of whose nodes are taken, by files in Root.
func filled(t *testing.T, sectors int) *store.Store {
	t.Helper()
	s := grown(t, sectors)
	for n := 2; n < manyNode; n++ {
		_, e := Make(s, "/n"+strconv.Itoa(n), api.File)
		must(t, "Make", e)
		must(t, "Commit", s.Commit())
	}
	return s
}

// drained: no sector is free any more, and that lasts.
func drained(t *testing.T, s *store.Store) {
	t.Helper()
	for s.Free() > 0 {
		_, e := s.Take()
		must(t, "Take", e)
		must(t, "Commit", s.Commit())
	}
}

// crowded: so many sectors will be others, of which none is one of a node or of bytes.
func crowded(t *testing.T, s *store.Store, count int) {
	t.Helper()
	for n := range count {
		b, e := s.Get(150 + n)
		must(t, "Get", e)
		must(t, "Put", s.Put(150+n, b))
	}
}

func TestMakeWithoutRoom(t *testing.T) {
	s := filled(t, 64)
	fails(t, "Make of one node too many", told(Make(s, "/x", api.File)), api.ErrFull)
	fails(t, "Make of one that is there", told(Make(s, "/n5", api.File)), api.ErrThere)
	drained(t, s)
	fails(t, "Make without a node or a sector", told(Make(s, "/x", api.File)), api.ErrFull)
	s = grown(t, 64, "/d/")
	drained(t, s)
	fails(t, "Make where a sector is lacking", told(Make(s, "/d/x", api.File)), api.ErrSpace)
	s.Drop()
	if list(t, s, "/d") != "" || nodeOf(t, s, 3).Kind != 0 {
		t.Error("behind Drop something is there")
	}
	_, e := Make(s, "/x", api.File)
	is(t, "Make where a sector is there", e, api.OK)
}

func TestMoreThanACommitTakes(t *testing.T) {
	for _, c := range []struct {
		what string
		need int
		do   func(s *store.Store) api.Errno
	}{
		// Root's, /d's and /f's nodes lie in one sector, /g's and the new one in the next; with a block that is taken the map changes, too.
		{"Make", 4, func(s *store.Store) api.Errno { _, e := Make(s, "/x", api.File); return e }},
		{"Make in a directory", 5, func(s *store.Store) api.Errno { _, e := Make(s, "/d/x", api.File); return e }},
		{"Link", 2, func(s *store.Store) api.Errno { _, e := Link(s, "/f", "/x"); return e }},
		{"Unlink", 2, func(s *store.Store) api.Errno { _, e := Unlink(s, "/f"); return e }},
		{"Rmdir", 2, func(s *store.Store) api.Errno { return Rmdir(s, "/d") }},
		{"Rename", 2, func(s *store.Store) api.Errno { _, e := Rename(s, "/f", "/x"); return e }},
		{"Rename into a directory", 4, func(s *store.Store) api.Errno { _, e := Rename(s, "/f", "/d/x"); return e }},
		{"Rename to what is there", 3, func(s *store.Store) api.Errno { _, e := Rename(s, "/f", "/g"); return e }},
	} {
		s := grown(t, 200, "/d/", "/f", "/g")
		must(t, "Commit", s.Commit())
		crowded(t, s, logSize-c.need+1)
		is(t, c.what+" with a sector too many", c.do(s), api.ErrLarge)
		s.Drop()
		crowded(t, s, logSize-c.need)
		is(t, c.what, c.do(s), api.OK)
		must(t, "Commit", s.Commit())
	}
	s := grown(t, 200, "/f")
	crowded(t, s, logSize)
	if x := at(t, s, "/f"); x.Handle.Node != 2 || list(t, s, "/") != "f" {
		t.Error("Look and List change nothing")
	}
	if _, e := Rename(s, "/f", "/f"); e != api.OK {
		t.Error("Rename of one to itself:", e)
	}
}

// packed: a store whose Root has as many entries as may be, d, and names of f, as many as may be, and of g.
func packed(t *testing.T) *store.Store {
	t.Helper()
	s := grown(t, 250, "/d/", "/f", "/g", "/d/h")
	for i := 3; i < most; i++ {
		old := "/f"
		if i >= 3+manyLink-1 {
			old = "/g"
		}
		_, e := Link(s, old, "/l"+strconv.Itoa(i))
		must(t, "Link", e)
		must(t, "Commit", s.Commit())
	}
	return s
}

func TestADirectoryHasTooManyEntries(t *testing.T) {
	s := packed(t)
	if x := at(t, s, "/"); x.Size != maxSize || x.Change != most {
		t.Error("Root:", x)
	}
	if x := at(t, s, "/l3"); x.Links != manyLink {
		t.Error("f:", x)
	}
	for _, c := range []call{
		{"Make", func(s *store.Store) answer { return told(Make(s, "/x", api.File)) }},
		{"Make", func(s *store.Store) answer { return told(Make(s, "/x", api.Dir)) }},
		{"Link", func(s *store.Store) answer { return told(Link(s, "/g", "/x")) }},
		{"Rename", func(s *store.Store) answer { return told(Rename(s, "/d/h", "/x")) }},
	} {
		fails(t, c.what, c.do(s), api.ErrLarge)
		s.Drop()
	}
	fails(t, "Link of one with all its Links", told(Link(s, "/f", "/x")), api.ErrFull)
	fails(t, "Link of one with all its Links to what is there", told(Link(s, "/f", "/g")), api.ErrThere)
	if _, e := Link(s, "/g", "/d/x"); e != api.OK {
		t.Error("Link elsewhere:", e)
	}
	// One goes ahead of the one that comes, so there is a place for it.
	for _, c := range [][2]string{{"/l40", "/x"}, {"/d/h", "/l41"}, {"/x", "/l290"}} {
		_, e := Rename(s, c[0], c[1])
		is(t, "Rename "+c[0]+" to "+c[1], e, api.OK)
		must(t, "Commit", s.Commit())
	}
	got := slots(t, s, root)
	if len(got) != most || got[40] != "l290 3" || got[41] != "l41 5" || got[290] != "" {
		t.Error(len(got), got[40], got[41], got[290])
	}
	if x := at(t, s, "/f"); x.Links != manyLink-1 {
		t.Error("f:", x)
	}
}

func TestLink(t *testing.T) {
	s := grown(t, 64, "/d/", "/f", "/d/e/")
	must(t, "Write", space.Write(s, 3, 0, []byte("hello")))
	want := api.Stat{Handle: api.Handle{Node: 3, Gen: 2}, Kind: api.File, Links: 1, Size: 5, Change: 2}
	for _, p := range []string{"/g", "/d/f", "/d/e/../e/h"} {
		want.Links++
		want.Change++
		if x, e := Link(s, "/f", p); x != want || e != api.OK {
			t.Errorf("Link to %s: %v, %d, want %v", p, x, e, want)
		}
		for _, q := range []string{"/f", p} {
			if x := at(t, s, q); x != want {
				t.Errorf("Look %s behind Link to %s: %v", q, p, x)
			}
		}
		must(t, "Commit", s.Commit())
	}
	want.Links, want.Change = 5, 6
	if x, e := Link(s, "/d/e/h", "/i"); x != want || e != api.OK {
		t.Error("Link of a link:", x, e)
	}
	holds(t, "Link", s, root, "d 2", "f 3", "g 3", "i 3")
	holds(t, "Link", s, 2, "e 4", "f 3")
	holds(t, "Link", s, 4, "h 3")
	for n, change := range map[int]int{root: 4, 2: 3, 4: 2} {
		if got := nodeOf(t, s, n).Change; got != change {
			t.Errorf("Change of node %d: %d, want %d", n, got, change)
		}
	}
}

func TestLinkWrongly(t *testing.T) {
	s := grown(t, 64, "/d/", "/f", "/g")
	for _, c := range []struct {
		old, p string
		want   api.Errno
	}{
		{"/q", "/x", api.ErrNone}, {"/q", "/f", api.ErrNone}, {"/f/x", "/x", api.ErrFile}, {"/f/x", "/q/x", api.ErrFile}, {"x", "/x", api.ErrText},
		{"/d", "/x", api.ErrDir}, {"/", "/x", api.ErrDir}, {"/d", "/f", api.ErrDir}, {"/d", "/q/x", api.ErrDir}, {"/d", "x", api.ErrDir},
		{"/f", "/", api.ErrDir}, {"/f", "/q/x", api.ErrNone}, {"/f", "/g/x", api.ErrFile}, {"/f", "/f/x", api.ErrFile}, {"/f", "x", api.ErrText},
		{"/f", "/g", api.ErrThere}, {"/f", "/f", api.ErrThere}, {"/f", "/d", api.ErrThere}, {"/f", "/d/.", api.ErrThere},
	} {
		fails(t, "Link of "+c.old+" to "+c.p, told(Link(s, c.old, c.p)), c.want)
		s.Drop()
	}
	x := nodeOf(t, s, 3)
	x.Links = manyLink
	must(t, "SetNode", s.SetNode(3, x))
	drained(t, s)
	fails(t, "Link of one with all its Links, where a sector is lacking", told(Link(s, "/f", "/d/x")), api.ErrFull)
	fails(t, "Link where a sector is lacking", told(Link(s, "/g", "/d/x")), api.ErrSpace)
	s.Drop()
	x.Links = manyLink - 1
	must(t, "SetNode", s.SetNode(3, x))
	if y, e := Link(s, "/f", "/x"); y.Links != manyLink || e != api.OK {
		t.Error("Link of one with one Link less:", y, e)
	}
}

func TestUnlink(t *testing.T) {
	s := grown(t, 64, "/d/", "/f")
	free := s.Free()
	must(t, "Write", space.Write(s, 3, 500, []byte(strings.Repeat("x", 200))))
	_, e := Link(s, "/f", "/d/g")
	must(t, "Link", e)
	must(t, "Commit", s.Commit())
	before := at(t, s, "/f")
	if x, e := Unlink(s, "/f"); x != before || x.Links != 2 || e != api.OK {
		t.Error("Unlink of one of two names:", x, e)
	}
	holds(t, "Unlink", s, root, "d 2", "")
	after := before
	after.Links, after.Change = 1, before.Change+1
	if x := at(t, s, "/d/g"); x != after {
		t.Errorf("the other name: %v, want %v", x, after)
	}
	if b, e := space.Read(s, 3, 690, 20); string(b) != "xxxxxxxxxx" || e != api.OK {
		t.Error("its bytes:", b, e)
	}
	must(t, "Commit", s.Commit())
	if x, e := Unlink(s, "/d/g"); x != after || e != api.OK {
		t.Error("Unlink of the last name:", x, e)
	}
	if x := nodeOf(t, s, 3); x != (api.Node{Gen: 2, Change: after.Change + 1}) {
		t.Error("what is free:", x)
	}
	holds(t, "Unlink", s, 2, "")
	if s.Free() != free-1 {
		t.Errorf("free: %d, want %d", s.Free(), free-1)
	}
	for n, change := range map[int]int{root: 3, 2: 3} {
		if got := nodeOf(t, s, n); got.Change != change || got.Size%entrySize != 0 || got.Size == 0 {
			t.Errorf("directory %d: %v, want Change %d", n, got, change)
		}
	}
	must(t, "Commit", s.Commit())
	if x, e := Make(s, "/new", api.Dir); x != (api.Stat{Handle: api.Handle{Node: 3, Gen: 3}, Kind: api.Dir, Links: 1, Change: after.Change + 2}) || e != api.OK {
		t.Error("the node is given anew:", x, e)
	}
}

func TestUnlinkWrongly(t *testing.T) {
	s := grown(t, 64, "/d/", "/f", "/d/e/")
	for p, want := range map[string]api.Errno{
		"/": api.ErrDir, "/..": api.ErrDir, "/d": api.ErrDir, "/d/e": api.ErrDir, "/d/": api.ErrDir, "/q": api.ErrNone, "/d/f": api.ErrNone, "/q/f": api.ErrNone,
		"/f/x": api.ErrFile, "/f/x/y": api.ErrFile, "f": api.ErrText,
	} {
		fails(t, "Unlink of "+p, told(Unlink(s, p)), want)
		s.Drop()
	}
	_, e := Unlink(s, "/f/")
	must(t, "Unlink", e)
	fails(t, "Unlink once more", told(Unlink(s, "/f")), api.ErrNone)
}

func TestRmdir(t *testing.T) {
	s := grown(t, 64, "/d/", "/d/e/", "/f")
	free := s.Free()
	for p, want := range map[string]api.Errno{
		"/": api.ErrDir, "/d/..": api.ErrDir, "/d": api.ErrEmpty, "/f": api.ErrFile, "/q": api.ErrNone, "/d/q": api.ErrNone, "/q/e": api.ErrNone,
		"/f/x": api.ErrFile, "/d/e/x/y": api.ErrNone, "d": api.ErrText,
	} {
		is(t, "Rmdir of "+p, Rmdir(s, p), want)
		s.Drop()
	}
	must(t, "Rmdir", Rmdir(s, "/d/e"))
	holds(t, "Rmdir", s, 2, "")
	is(t, "Rmdir once more", Rmdir(s, "/d/e"), api.ErrNone)
	if x := nodeOf(t, s, 3); x != (api.Node{Gen: 2, Change: 2}) {
		t.Error("a directory that is free:", x)
	}
	if x := nodeOf(t, s, 2); x.Change != 3 || x.Size != entrySize {
		t.Error("a directory that became empty:", x)
	}
	// It has a sector, in which nothing but an empty entry is.
	must(t, "Rmdir", Rmdir(s, "/d"))
	if x := nodeOf(t, s, 2); x != (api.Node{Gen: 1, Change: 4}) {
		t.Error("a directory that is free:", x)
	}
	if s.Free() != free+1 {
		t.Errorf("free: %d, want %d", s.Free(), free+1)
	}
	holds(t, "Rmdir", s, root, "", "f 4")
	if x := nodeOf(t, s, root); x.Change != 3 {
		t.Error("Root:", x)
	}
}

func TestRename(t *testing.T) {
	for _, c := range []struct {
		old, p string
		node   int
		change int // by how much more Root's is
		root   []string
		a      []string
		gone   int
	}{
		{"/f", "/x", 5, 2, []string{"a 2", "b 3", "x 5", "g 6"}, []string{"d 4", "h 7"}, 0},
		{"/f", "/g", 5, 3, []string{"a 2", "b 3", "g 5", ""}, []string{"d 4", "h 7"}, 6},
		{"/g", "/f", 6, 3, []string{"a 2", "b 3", "f 6", ""}, []string{"d 4", "h 7"}, 5},
		{"/a", "/c", 2, 2, []string{"c 2", "b 3", "f 5", "g 6"}, []string{"d 4", "h 7"}, 0},
		{"/a", "/b", 2, 3, []string{"b 2", "", "f 5", "g 6"}, []string{"d 4", "h 7"}, 3},
		{"/f", "/a/x", 5, 1, []string{"a 2", "b 3", "", "g 6"}, []string{"d 4", "h 7", "x 5"}, 0},
		{"/f", "/a/h", 5, 1, []string{"a 2", "b 3", "", "g 6"}, []string{"d 4", "h 5"}, 7},
		{"/b", "/a/x", 3, 1, []string{"a 2", "", "f 5", "g 6"}, []string{"d 4", "h 7", "x 3"}, 0},
		{"/b", "/a/d", 3, 1, []string{"a 2", "", "f 5", "g 6"}, []string{"d 3", "h 7"}, 4},
		{"/a/d", "/b", 4, 2, []string{"a 2", "b 4", "f 5", "g 6"}, []string{"", "h 7"}, 3},
		{"/a/h", "/x", 7, 1, []string{"a 2", "b 3", "f 5", "g 6", "x 7"}, []string{"d 4", ""}, 0},
		{"/a/h", "/a/f", 7, 0, []string{"a 2", "b 3", "f 5", "g 6"}, []string{"d 4", "f 7"}, 0},
		{"/a/d", "/a/h2", 4, 0, []string{"a 2", "b 3", "f 5", "g 6"}, []string{"h2 4", "h 7"}, 0},
		{"/a/d", "/a/../a/d/../x", 4, 0, []string{"a 2", "b 3", "f 5", "g 6"}, []string{"x 4", "h 7"}, 0},
	} {
		s := grown(t, 64, "/a/", "/b/", "/a/d/", "/f", "/g", "/a/h")
		must(t, "Write", space.Write(s, 6, 0, []byte("hello")))
		must(t, "Commit", s.Commit())
		before := at(t, s, c.old)
		change, gone := nodeOf(t, s, root).Change, nodeOf(t, s, c.gone)
		what := "Rename " + c.old + " to " + c.p
		if x, e := Rename(s, c.old, c.p); x != before || x.Handle.Node != c.node || e != api.OK {
			t.Errorf("%s: %v, %d, want %v", what, x, e, before)
		}
		if x := at(t, s, c.p); x != before {
			t.Errorf("%s: there is %v", what, x)
		}
		fails(t, what+": the old name", told(Look(s, c.old)), api.ErrNone)
		holds(t, what, s, root, c.root...)
		holds(t, what, s, 2, c.a...)
		if got := nodeOf(t, s, root).Change - change; got != c.change {
			t.Errorf("%s: Change of Root is %d more, want %d", what, got, c.change)
		}
		if x := nodeOf(t, s, c.gone); c.gone != 0 && x != (api.Node{Gen: gone.Gen, Change: gone.Change + 1}) {
			t.Errorf("%s: taken away is %v, was %v", what, x, gone)
		}
		sound(t, what, s, 64)
		must(t, "Commit", s.Commit())
	}
}

func TestRenameWrongly(t *testing.T) {
	s := grown(t, 64, "/a/", "/a/b/", "/a/b/c/", "/d/", "/d/f", "/f", "/e/", "/a/b/c/g")
	for _, c := range []struct {
		old, p string
		want   api.Errno
	}{
		{"/", "/x", api.ErrDir}, {"/a/..", "/", api.ErrDir}, {"/q", "/x", api.ErrNone}, {"/q", "/", api.ErrNone}, {"/q", "/q", api.ErrNone}, {"/q", "/q/x", api.ErrNone},
		{"/f/x", "/x", api.ErrFile}, {"/q/x", "/f/x", api.ErrNone}, {"f", "/x", api.ErrText}, {"f", "x y", api.ErrText},
		{"/f", "/", api.ErrDir}, {"/a", "/", api.ErrDir}, {"/f", "/q/x", api.ErrNone}, {"/f", "/f/x", api.ErrFile}, {"/a", "/f/x", api.ErrFile}, {"/f", "x", api.ErrText},
		{"/a", "/a/x", api.ErrLoop}, {"/a", "/a/b", api.ErrLoop}, {"/a", "/a/b/x", api.ErrLoop}, {"/a", "/a/b/c/x", api.ErrLoop}, {"/a", "/a/b/c/g", api.ErrLoop},
		{"/a/b", "/a/b/c", api.ErrLoop}, {"/a/b", "/a/b/b", api.ErrLoop}, {"/a", "/a/q/x", api.ErrNone}, {"/a", "/a/b/c/g/x", api.ErrFile}, {"/a", "/e/../a/x", api.ErrLoop},
		{"/f", "/e", api.ErrDir}, {"/f", "/a", api.ErrDir}, {"/d/f", "/d", api.ErrDir}, {"/a/b/c/g", "/a/b", api.ErrDir},
		{"/e", "/f", api.ErrFile}, {"/a", "/d/f", api.ErrFile}, {"/a/b", "/f", api.ErrFile},
		{"/e", "/a", api.ErrEmpty}, {"/a", "/d", api.ErrEmpty}, {"/a/b", "/a", api.ErrEmpty}, {"/a/b/c", "/a", api.ErrEmpty}, {"/e", "/a/b/c", api.ErrEmpty},
	} {
		fails(t, "Rename of "+c.old+" to "+c.p, told(Rename(s, c.old, c.p)), c.want)
		s.Drop()
	}
	if list(t, s, "/") != "a d e f" || list(t, s, "/a/b/c") != "g" || list(t, s, "/d") != "f" {
		t.Error("behind errors:", list(t, s, "/"))
	}
	// These are none of them below what is renamed, though their paths or names begin alike.
	for _, c := range [][2]string{{"/a/b", "/a/bb"}, {"/a/bb", "/a/b"}, {"/a/b/c", "/a/c"}, {"/a", "/e/a"}, {"/e/a", "/a"}} {
		_, e := Rename(s, c[0], c[1])
		is(t, "Rename of "+c[0]+" to "+c[1], e, api.OK)
	}
}

func TestRenameToTheSame(t *testing.T) {
	s := grown(t, 64, "/a/", "/f", "/a/e/")
	for _, p := range []string{"/g", "/a/f"} {
		_, e := Link(s, "/f", p)
		must(t, "Link", e)
	}
	must(t, "Commit", s.Commit())
	for _, c := range [][2]string{{"/f", "/f"}, {"/f", "/g"}, {"/a/f", "/g"}, {"/g", "/a/f"}, {"/a", "/a"}, {"/a/e", "/a/./e/"}, {"/a/", "/a/e/.."}} {
		before := at(t, s, c[0])
		nodes := []api.Node{nodeOf(t, s, root), nodeOf(t, s, 2), nodeOf(t, s, 3), nodeOf(t, s, 4)}
		if x, e := Rename(s, c[0], c[1]); x != before || e != api.OK {
			t.Errorf("Rename of %s to %s: %v, %d, want %v", c[0], c[1], x, e, before)
		}
		if got := []api.Node{nodeOf(t, s, root), nodeOf(t, s, 2), nodeOf(t, s, 3), nodeOf(t, s, 4)}; !slices.Equal(got, nodes) {
			t.Errorf("Rename of %s to %s: nodes %v, were %v", c[0], c[1], got, nodes)
		}
		holds(t, "Rename to the same", s, root, "a 2", "f 3", "g 3")
		holds(t, "Rename to the same", s, 2, "e 4", "f 3")
	}
}

func TestRenameTakesAwayAName(t *testing.T) {
	s := grown(t, 64, "/f", "/g", "/d/")
	must(t, "Write", space.Write(s, 3, 0, []byte("hello")))
	_, e := Link(s, "/g", "/d/h")
	must(t, "Link", e)
	must(t, "Commit", s.Commit())
	free, want := s.Free(), at(t, s, "/g")
	want.Links, want.Change = 1, want.Change+1
	_, e = Rename(s, "/f", "/g")
	must(t, "Rename", e)
	if x := at(t, s, "/d/h"); x != want || s.Free() != free {
		t.Errorf("it has another name: %v, want %v; %d are free, were %d", x, want, s.Free(), free)
	}
	_, e = Rename(s, "/g", "/d/h")
	must(t, "Rename", e)
	if x := nodeOf(t, s, 3); x != (api.Node{Gen: want.Handle.Gen, Change: want.Change + 1}) || s.Free() != free+1 {
		t.Errorf("it had no other: %v; %d are free, were %d", x, s.Free(), free)
	}
	if x := at(t, s, "/d/h"); x.Handle.Node != 2 || x.Links != 1 || x.Change != 1 {
		t.Error("what was renamed:", x)
	}
	sound(t, "Rename", s, 64)
}

func TestRenameWithoutRoom(t *testing.T) {
	s := grown(t, 64, "/d/", "/f", "/g", "/e/", "/e/x")
	drained(t, s)
	fails(t, "Rename where a sector is lacking", told(Rename(s, "/f", "/d/f")), api.ErrSpace)
	s.Drop()
	for _, c := range [][2]string{{"/f", "/h"}, {"/h", "/g"}, {"/g", "/e/x"}, {"/e/x", "/e/y"}, {"/e/y", "/e/x"}} {
		_, e := Rename(s, c[0], c[1])
		is(t, "Rename of "+c[0]+" to "+c[1], e, api.OK)
		must(t, "Commit", s.Commit())
	}
	fails(t, "Rename where a sector is lacking", told(Rename(s, "/e", "/d/e")), api.ErrSpace)
}

func TestNamesStandWhereThereIsAPlace(t *testing.T) {
	s := grown(t, 64, "/a", "/b", "/c", "/d", "/e/")
	for _, p := range []string{"/b", "/d"} {
		_, e := Unlink(s, p)
		must(t, "Unlink", e)
	}
	holds(t, "gone", s, root, "a 2", "", "c 4", "", "e 6")
	must(t, "Commit", s.Commit())
	_, e := Link(s, "/c", "/l")
	must(t, "Link", e)
	holds(t, "come", s, root, "a 2", "l 4", "c 4", "", "e 6")
	must(t, "Commit", s.Commit())
	_, e = Rename(s, "/a", "/r")
	must(t, "Rename", e)
	holds(t, "renamed", s, root, "r 2", "l 4", "c 4", "", "e 6")
	// What goes first leaves an empty entry ahead of the one that was empty.
	_, e = Rename(s, "/e", "/s")
	must(t, "Rename", e)
	holds(t, "renamed", s, root, "r 2", "l 4", "c 4", "s 6", "")
	must(t, "Commit", s.Commit())
	for _, p := range []string{"/m", "/n"} {
		_, e = Make(s, p, api.File)
		must(t, "Make", e)
	}
	holds(t, "made", s, root, "r 2", "l 4", "c 4", "s 6", "m 3", "n 5")
	if x := nodeOf(t, s, root); x.Change != 5+2+1+2+2+2 || x.Size != 6*entrySize {
		t.Error("Root:", x)
	}
}

func TestLongestNames(t *testing.T) {
	long := strings.Repeat("n", maxName)
	s := grown(t, 64, "/"+long+"/", "/"+long+"/"+long)
	holds(t, "long names", s, root, long+" 2")
	holds(t, "long names", s, 2, long+" 3")
	deep := ""
	for range 8 {
		deep += "/d"
		_, e := Make(s, deep, api.Dir)
		must(t, "Make "+deep, e)
		must(t, "Commit", s.Commit())
	}
	fails(t, "Make of one below", told(Make(s, deep+"/d", api.Dir)), api.ErrRange)
	_, e := Rename(s, "/d", "/"+long+"/d")
	must(t, "Rename", e)
	if x := at(t, s, "/"+long+"/d/d/d/d/d/d/d"); x.Kind != api.Dir {
		t.Error(x)
	}
	fails(t, "Look deeper than paths go", told(Look(s, "/"+long+deep)), api.ErrRange)
}

func TestChangeHasAnEnd(t *testing.T) {
	for _, c := range []struct {
		what string
		do   func(s *store.Store) api.Errno
		node int
	}{
		{"Link", func(s *store.Store) api.Errno { _, e := Link(s, "/f", "/x"); return e }, 2},
		{"Unlink", func(s *store.Store) api.Errno { _, e := Unlink(s, "/g"); return e }, 2},
		{"Unlink of the last", func(s *store.Store) api.Errno { _, e := Unlink(s, "/h"); return e }, 3},
		{"Rmdir", func(s *store.Store) api.Errno { return Rmdir(s, "/d") }, 4},
		{"Rename", func(s *store.Store) api.Errno { _, e := Rename(s, "/f", "/h"); return e }, 3},
		{"Make", func(s *store.Store) api.Errno { _, e := Make(s, "/x", api.File); return e }, root},
	} {
		for _, change := range []int{last - 1, last} {
			s := grown(t, 64, "/f", "/h", "/d/")
			_, e := Link(s, "/f", "/g")
			must(t, "Link", e)
			for _, n := range []int{root, c.node} {
				x := nodeOf(t, s, n)
				x.Change = change
				must(t, "SetNode", s.SetNode(n, x))
			}
			must(t, c.what, c.do(s))
			for _, n := range []int{root, c.node} {
				if got := nodeOf(t, s, n).Change; got != last {
					t.Errorf("%s: Change of node %d is %d, want %d", c.what, n, got, last)
				}
			}
		}
	}
}

func TestDrop(t *testing.T) {
	for _, c := range calls("/f", "/x") {
		s := grown(t, 64, "/f", "/d/", "/d/g")
		c.do(s)
		_, e := Rename(s, "/d/g", "/y")
		must(t, "Rename", e)
		s.Drop()
		holds(t, c.what+" and Drop", s, root, "f 2", "d 3")
		holds(t, c.what+" and Drop", s, 3, "g 4")
		if x := nodeOf(t, s, root); x.Change != 2 {
			t.Error("Root:", x)
		}
		sound(t, c.what+" and Drop", s, 64)
	}
}

// Somebody may put any bytes where a directory's, or a node's, are: no call may answer but with an error.
func TestDirectoriesThatAreNone(t *testing.T) {
	s := grown(t, 64, "/d/", "/d/f", "/g")
	bad := make([]byte, entrySize)
	bad[0], bad[1], bad[25] = 1, '/', 2
	must(t, "Write", space.Write(s, 2, 0, bad))
	must(t, "Commit", s.Commit())
	for _, c := range calls("/d/f", "/x") {
		if !strings.HasPrefix(c.what, "By") && c.what != "Make of nothing" {
			fails(t, c.what+" in a directory that is none", c.do(s), api.ErrForm)
			s.Drop()
		}
	}
	is(t, "Rmdir of a directory that is none", Rmdir(s, "/d"), api.ErrForm)
	fails(t, "Rename to a directory that is none", told(Rename(s, "/g", "/d/x")), api.ErrForm)
	s = grown(t, 64, "/f", "/g", "/d/")
	b, e := s.Get(atNodes)
	must(t, "Get", e)
	b[2*entrySize] = 9
	must(t, "Put", s.Put(atNodes, b))
	must(t, "Commit", s.Commit())
	for _, c := range calls("/f", "/x") {
		want := api.ErrForm
		switch c.what {
		case "Make of a file", "Make of a directory":
			want = api.ErrThere
		case "Make of nothing":
			want = api.ErrArg
		case "By", "By of none":
			continue
		}
		fails(t, c.what+" of a node that is none", c.do(s), want)
		s.Drop()
	}
	fails(t, "By of a node that is none", told(By(s, api.Handle{Node: 2, Gen: 1})), api.ErrForm)
	fails(t, "Rename to a node that is none", told(Rename(s, "/g", "/f")), api.ErrForm)
}

// A directory that is an entry of itself, and one that names nothing: each call ends.
func TestTreesThatAreNone(t *testing.T) {
	loop := make([]byte, 3*entrySize)
	copy(loop, "\x01a")
	copy(loop[entrySize:], "\x01b")
	copy(loop[2*entrySize:], "\x01c")
	loop[25], loop[entrySize+25], loop[2*entrySize+25] = 2, root, 20
	paths := []string{"/", "/d", "/d/a", "/d/b", "/d/c", "/d/a/a/a/a/a/a/a", "/d/b/d/b/d", "/d/c/x", "/d/a/x", "/d/b/x"}
	for _, old := range paths {
		for _, p := range paths {
			for _, c := range calls(old, p) {
				s := grown(t, 64, "/d/")
				must(t, "Write", space.Write(s, 2, 0, loop))
				if x := c.do(s); x.e != api.OK && (x.stat != (api.Stat{}) || len(x.names) != 0) {
					t.Error(c.what, old, p, x)
				}
			}
		}
	}
}

func TestAllOrNoneBehindALossOfPower(t *testing.T) {
	paths := []string{"/a/", "/f", "/g", "/a/h", "/b/"}
	for _, c := range []struct {
		what string
		do   func(s *store.Store) api.Errno
	}{
		{"Make", func(s *store.Store) api.Errno { _, e := Make(s, "/b/x", api.Dir); return e }},
		{"Link", func(s *store.Store) api.Errno { _, e := Link(s, "/f", "/b/x"); return e }},
		{"Unlink", func(s *store.Store) api.Errno { _, e := Unlink(s, "/f"); return e }},
		{"Rmdir", func(s *store.Store) api.Errno { return Rmdir(s, "/b") }},
		{"Rename", func(s *store.Store) api.Errno { _, e := Rename(s, "/f", "/a/h"); return e }},
	} {
		before := whole(t, grown(t, 64, paths...))
		s := grown(t, 64, paths...)
		must(t, c.what, c.do(s))
		after := whole(t, s)
		seen := [2]int{}
		for fuse := 0; ; fuse++ {
			s, d := fresh(t, 64)
			for _, p := range paths {
				_, e := Make(s, p, api.File+strings.Count(p[len(p)-1:], "/"))
				must(t, "Make", e)
				must(t, "Commit", s.Commit())
			}
			must(t, c.what, c.do(s))
			d.Fuse(fuse)
			e := s.Commit()
			d.Restart()
			s, f := store.Mount(d)
			must(t, "Mount", f)
			switch whole(t, s) {
			case before:
				seen[0]++
				if e == api.OK {
					t.Errorf("%s, fuse %d: answered, and gone", c.what, fuse)
				}
			case after:
				seen[1]++
			default:
				t.Errorf("%s, fuse %d: neither what was nor what would be", c.what, fuse)
			}
			sound(t, c.what, s, 64)
			if e == api.OK {
				break
			}
		}
		if seen[0] == 0 || seen[1] == 0 {
			t.Error(c.what, seen)
		}
	}
}

// whole: all nodes, and all entries, as one text.
func whole(t *testing.T, s *store.Store) string {
	t.Helper()
	var b strings.Builder
	for n := 1; n < manyNode; n++ {
		x := nodeOf(t, s, n)
		for _, m := range []int{x.Kind, x.Links, x.Gen, x.Size, x.Change} {
			b.WriteString(strconv.Itoa(m) + " ")
		}
		if x.Kind == api.Dir {
			b.WriteString(strings.Join(slots(t, s, n), ","))
		}
		b.WriteString("\n")
	}
	return b.String()
}

// sound: what chapter 16 asks of a tree of names: Links are entries, all can be come to, sectors belong to one.
func sound(t *testing.T, what string, s *store.Store, sectors int) {
	t.Helper()
	entries, owned := map[int]int{}, 0
	reached := []int{root}
	for i := 0; i < len(reached); i++ {
		if nodeOf(t, s, reached[i]).Kind != api.Dir {
			continue
		}
		for _, r := range slots(t, s, reached[i]) {
			_, number, ok := strings.Cut(r, " ")
			if !ok {
				continue
			}
			n, _ := strconv.Atoi(number)
			entries[n]++
			if entries[n] == 1 {
				reached = append(reached, n)
			}
		}
	}
	for n := range manyNode {
		x := nodeOf(t, s, n)
		if n != root && x.Links != entries[n] || x.Kind == 0 && slices.Contains(reached, n) {
			t.Errorf("%s: node %d has %d entries: %v", what, n, entries[n], x)
		}
		if x.Kind != 0 {
			list, e := space.Sectors(s, n)
			must(t, "Sectors", e)
			owned += len(list)
		}
	}
	if s.Free() != sectors-atData-owned {
		t.Errorf("%s: %d are free, %d belong to nodes", what, s.Free(), owned)
	}
}
