package path

import (
	"math/rand"
	"regexp"
	"slices"
	"strings"
	"testing"

	"copyhold/api"
)

// The document's own bounds, not the program's.
const (
	longestName = 24
	longestPath = 96
	deepest     = 8
)

var signs = regexp.MustCompile(`\A[a-zA-Z0-9._-]{1,24}\z`)

// modelName: a name by the chapter's words.
func modelName(s string) bool {
	return signs.MatchString(s) && s != "." && s != ".."
}

// modelSplit: Split by the chapter's words, thing by thing.
func modelSplit(s string) ([]string, api.Errno) {
	if len(s) > longestPath {
		return nil, api.ErrLarge
	}
	if !strings.HasPrefix(s, "/") {
		return nil, api.ErrText
	}
	var left []string
	for _, thing := range strings.Split(s, "/")[1:] {
		if thing == ".." && len(left) > 0 {
			left = left[:len(left)-1]
		}
		if thing == "" || thing == "." || thing == ".." {
			continue
		}
		if !modelName(thing) {
			return nil, api.ErrName
		}
		if left = append(left, thing); len(left) > deepest {
			return nil, api.ErrRange
		}
	}
	return left, api.OK
}

// modelJoin: the path of names that are right ones.
func modelJoin(names []string) string {
	if len(names) == 0 {
		return "/"
	}
	all := ""
	for _, name := range names {
		all += "/" + name
	}
	return all
}

// n: a name of so many bytes.
func n(size int) string {
	return strings.Repeat("n", size)
}

// times: a list with one text, so many times.
func times(s string, count int) []string {
	return slices.Repeat([]string{s}, count)
}

var wrongNames = []string{
	"", ".", "..", "/", "a/b", "/a", "a/", " ", "a b", " a", "a ", "a\x00", "\x00", "\x7f", "\x80", "\xff", "a\xffb", "ä", "aä", "\u017f", "\u212a", "a\n", "\ta",
	"a+", "a,", "a:", "@", "[", "`", "{", "a*", "a?", "a\\b", "~", n(longestName + 1), n(longestName) + "/", strings.Repeat("ä", 12), strings.Repeat(".", longestName+1), n(1 << 20),
}

var rightNames = []string{
	"a", "z", "A", "Z", "0", "9", "_", "-", "...", "....", ".a", "a.", "..a", "a..", "a..b", "._", "-.", "a.b_c-D0", n(longestName - 1), n(longestName),
	strings.Repeat(".", longestName), "abcdefghijklmnopqrstuvwx", "yzABCDEFGHIJKLMNOPQRSTUV", "WXYZ0123456789._-",
}

func TestName(t *testing.T) {
	for _, s := range rightNames {
		if !Name(s) {
			t.Errorf("Name(%q) is false", s)
		}
	}
	for _, s := range wrongNames {
		if Name(s) {
			t.Errorf("Name of %d bytes, %.30q, is true", len(s), s)
		}
	}
}

func TestNameByEachByte(t *testing.T) {
	const may = "abcdefghijklmnopqrstuvwxyzABCDEFGHIJKLMNOPQRSTUVWXYZ0123456789._-"
	for c := range 256 {
		b := string([]byte{byte(c)})
		want := strings.Contains(may, b)
		for _, s := range []string{"x" + b, b + "x", "x" + b + "x", n(23) + b, b + n(23)} {
			if Name(s) != want {
				t.Errorf("Name(%q) is %v", s, !want)
			}
		}
		if alone := want && b != "."; Name(b) != alone {
			t.Errorf("Name(%q) is %v", b, !alone)
		}
	}
}

// eachText: all texts of some signs, up to so many bytes.
func eachText(of string, size int) []string {
	list := []string{""}
	for i := 0; len(list[i]) < size; i++ {
		for j := range of {
			list = append(list, list[i]+of[j:j+1])
		}
	}
	return list
}

// somePaths: paths of things of all kinds, the same at each call, many of them near the bounds.
func somePaths() []string {
	r := rand.New(rand.NewSource(4))
	usual := []string{"a", "b", "c", "...", "a", "b", "", ".", "..", "a.b", n(8)}
	rare := []string{"a b", "\xff", n(longestName), n(longestName + 1), "..", "ä"}
	var list []string
	for range 20000 {
		s := ""
		for range r.Intn(20) {
			s += "/" + usual[r.Intn(len(usual))]
			if r.Intn(25) == 0 {
				s += "/" + rare[r.Intn(len(rare))]
			}
		}
		list = append(list, s)
	}
	return list
}

func allPaths() []string {
	return slices.Concat(eachText("/.a ", 7), somePaths())
}

// checkSplit: Split's answer is the one wanted.
func checkSplit(t *testing.T, s string, want []string, wantE api.Errno) {
	t.Helper()
	if names, e := Split(s); !slices.Equal(names, want) || e != wantE {
		t.Errorf("Split(%.100q of %d bytes) = %q, %d, not %q, %d", s, len(s), names, e, want, wantE)
	}
}

func TestSplitAsTheWordsSay(t *testing.T) {
	count := map[api.Errno]int{}
	for _, s := range allPaths() {
		want, e := modelSplit(s)
		checkSplit(t, s, want, e)
		count[e]++
	}
	for _, e := range []api.Errno{api.OK, api.ErrLarge, api.ErrText, api.ErrName, api.ErrRange} {
		if count[e] < 50 {
			t.Errorf("only %d paths with the error %d were tried", count[e], e)
		}
	}
}

func TestSplit(t *testing.T) {
	for s, want := range map[string][]string{
		"/": nil, "//": nil, "/.": nil, "/..": nil, "/../..": nil, "/./": nil, "/../": nil, strings.Repeat("/", longestPath): nil,
		"/a": {"a"}, "/a/": {"a"}, "//a//b//": {"a", "b"}, "/./a/./b/.": {"a", "b"}, "/a/../b": {"b"}, "/a/b/..": {"a"}, "/a/b/../c": {"a", "c"},
		"/../a": {"a"}, "/a/../../b": {"b"}, "/a/../..": nil, "/a/b/../../../c": {"c"}, "/.../....": {"...", "...."}, "/..a/.a": {"..a", ".a"},
		"/" + n(24) + "/" + n(24):                               {n(24), n(24)},
		strings.Repeat("/a", 8):                                 times("a", 8),
		strings.Repeat("/a", 8) + "/..":                         times("a", 7),
		strings.Repeat("/a", 8) + "/../b":                       append(times("a", 7), "b"),
		strings.Repeat("/a", 8) + "/./":                         times("a", 8),
		strings.Repeat("/a/..", 19):                             nil,
		strings.Repeat("/"+n(11), 8):                            times(n(11), 8),
		strings.Repeat("/"+n(24), 3) + "/" + n(20):              append(times(n(24), 3), n(20)),
		strings.Repeat("/..", 8) + strings.Repeat("/a", 8):      times("a", 8),
		strings.Repeat("/a", 8) + strings.Repeat("/..", 9):      nil,
		strings.Repeat("/", longestPath-1-len("a")) + "/" + "a": {"a"},
	} {
		checkSplit(t, s, want, api.OK)
	}
}

func TestSplitOfWrongPaths(t *testing.T) {
	for s, want := range map[string]api.Errno{
		"": api.ErrText, "a": api.ErrText, "a/b": api.ErrText, ".": api.ErrText, "..": api.ErrText, "./a": api.ErrText, " /a": api.ErrText, "\x00": api.ErrText, "\\a": api.ErrText,
		"a b": api.ErrText, "/a b": api.ErrName, "/ ": api.ErrName, "/a/b c/..": api.ErrName, "/\x00": api.ErrName, "/ä": api.ErrName, "/" + n(25): api.ErrName, "/a/" + n(25) + "/..": api.ErrName,
		strings.Repeat("/a", 9): api.ErrRange, strings.Repeat("/a", 9) + "/..": api.ErrRange, strings.Repeat("/a", 8) + "/./b": api.ErrRange, "/.." + strings.Repeat("/a", 9): api.ErrRange,
		// Of a wrong name and too many names the first one from the left is told.
		strings.Repeat("/a", 8) + "/b c":      api.ErrName,
		strings.Repeat("/a", 9) + "/b c":      api.ErrRange,
		"/b c" + strings.Repeat("/a", 9):      api.ErrName,
		strings.Repeat("/a", 8) + "/" + n(25): api.ErrName,
		// A long text is told ahead of all else.
		strings.Repeat("/", longestPath+1): api.ErrLarge, strings.Repeat("a", longestPath+1): api.ErrLarge, strings.Repeat("/a", 49): api.ErrLarge, "/b c" + strings.Repeat("/", longestPath): api.ErrLarge,
		strings.Repeat("a", longestPath): api.ErrText, "/" + n(longestPath-1): api.ErrName, strings.Repeat("/a", 48): api.ErrRange, strings.Repeat("ä", 49): api.ErrLarge, strings.Repeat("ä", 48): api.ErrText,
		strings.Repeat("/a", 1<<20): api.ErrLarge,
	} {
		checkSplit(t, s, nil, want)
	}
	for _, name := range wrongNames {
		if strings.Contains(name, "/") || name == "" || name == "." || name == ".." || len(name) > 80 {
			continue
		}
		for _, s := range []string{"/" + name, "/a/" + name, "/" + name + "/a", "/" + name + "/..", "/../" + name} {
			checkSplit(t, s, nil, api.ErrName)
		}
	}
}

// checkJoin: Join's answer is the one wanted.
func checkJoin(t *testing.T, names []string, want string, wantE api.Errno) {
	t.Helper()
	if s, e := Join(names...); s != want || e != wantE {
		t.Errorf("Join(%.100q) = %q, %d, not %q, %d", names, s, e, want, wantE)
	}
}

func TestJoin(t *testing.T) {
	checkJoin(t, nil, "/", api.OK)
	checkJoin(t, []string{}, "/", api.OK)
	checkJoin(t, []string{"a"}, "/a", api.OK)
	checkJoin(t, []string{"a", "b", "a"}, "/a/b/a", api.OK)
	checkJoin(t, times("a", 8), "/a/a/a/a/a/a/a/a", api.OK)
	checkJoin(t, times(n(11), 8), strings.Repeat("/"+n(11), 8), api.OK)
	checkJoin(t, append(times(n(24), 3), n(20)), strings.Repeat("/"+n(24), 3)+"/"+n(20), api.OK)
	for _, name := range rightNames {
		checkJoin(t, []string{name}, "/"+name, api.OK)
		checkJoin(t, []string{"a", name, "b"}, "/a/"+name+"/b", api.OK)
	}
}

func TestJoinOfWrongNames(t *testing.T) {
	checkJoin(t, times("a", 9), "", api.ErrRange)
	checkJoin(t, times("a", 1<<16), "", api.ErrRange)
	checkJoin(t, append(times(n(24), 3), n(21)), "", api.ErrLarge)
	checkJoin(t, append(times(n(11), 7), n(12)), "", api.ErrLarge)
	checkJoin(t, times(n(24), 4), "", api.ErrLarge)
	checkJoin(t, times(n(24), 8), "", api.ErrLarge)
	for _, name := range wrongNames {
		checkJoin(t, []string{name}, "", api.ErrName)
		checkJoin(t, []string{"a", name}, "", api.ErrName)
		checkJoin(t, []string{name, "a"}, "", api.ErrName)
		// A wrong name is told ahead of too many bytes, and behind too many names.
		checkJoin(t, append(times(n(24), 7), name), "", api.ErrName)
		checkJoin(t, append(times("a", 8), name), "", api.ErrRange)
		checkJoin(t, times(name, 9), "", api.ErrRange)
	}
}

func TestClean(t *testing.T) {
	for _, s := range allPaths() {
		names, wantE := modelSplit(s)
		want := ""
		if wantE == api.OK {
			want = modelJoin(names)
		}
		got, e := Clean(s)
		if got != want || e != wantE {
			t.Errorf("Clean(%q) = %q, %d, not %q, %d", s, got, e, want, wantE)
		}
		if again, e := Clean(got); wantE == api.OK && (again != got || e != api.OK) {
			t.Errorf("Clean(%q) = %q, %d", got, again, e)
		}
	}
	for _, s := range []string{"/", strings.Repeat("/", longestPath), "/..", "/a/.."} {
		if got, e := Clean(s); got != "/" || e != api.OK {
			t.Errorf("Clean(%q) = %q, %d", s, got, e)
		}
	}
}

// modelWithin: Within by the chapter's words, name by name.
func modelWithin(s, top string) (bool, api.Errno) {
	below, e := modelSplit(s)
	if e != api.OK {
		return false, e
	}
	above, e := modelSplit(top)
	if e != api.OK {
		return false, e
	}
	for i, name := range above {
		if i >= len(below) || below[i] != name {
			return false, api.OK
		}
	}
	return len(below) > len(above), api.OK
}

func TestWithin(t *testing.T) {
	paths := slices.Concat(eachText("/.a", 4), []string{
		"/a/b", "/a/b/", "/a/b/c", "/ab", "/A", "/b/a", "/b", "/a/../b/c", "/a/b/..", "/a/./b/c/d", "/b c", "/a b/..", strings.Repeat("/a", 8), strings.Repeat("/a", 7), strings.Repeat("/a", 9), strings.Repeat("/", 97),
	})
	for _, s := range paths {
		for _, top := range paths {
			want, wantE := modelWithin(s, top)
			if in, e := Within(s, top); in != want || e != wantE {
				t.Errorf("Within(%q, %q) = %v, %d, not %v, %d", s, top, in, e, want, wantE)
			}
		}
	}
}

func TestWithinByItsWords(t *testing.T) {
	for _, c := range []struct {
		s, top string
		in     bool
		e      api.Errno
	}{
		{"/a", "/", true, api.OK}, {"/", "/", false, api.OK}, {"/a/b/c", "/a", true, api.OK}, {"/a/b", "/a/b", false, api.OK}, {"/a", "/a/b", false, api.OK}, {"/", "/a", false, api.OK},
		{"/ab", "/a", false, api.OK}, {"/ab/c", "/a", false, api.OK}, {"/b/a", "/a", false, api.OK}, {"/A/b", "/a", false, api.OK}, {"/x/../a/b", "//a/.", true, api.OK}, {"/a/b/..", "/a", false, api.OK},
		{"a", "/b c", false, api.ErrText}, {"/b c", "a", false, api.ErrName}, {"/a", "b", false, api.ErrText}, {strings.Repeat("/a", 9), "", false, api.ErrRange}, {"", strings.Repeat("/a", 9), false, api.ErrText},
		{"/", strings.Repeat("/", 97), false, api.ErrLarge}, {strings.Repeat("/", 97), "", false, api.ErrLarge},
	} {
		if in, e := Within(c.s, c.top); in != c.in || e != c.e {
			t.Errorf("Within(%q, %q) = %v, %d", c.s, c.top, in, e)
		}
	}
}

func TestLast(t *testing.T) {
	for _, s := range allPaths() {
		names, wantE := modelSplit(s)
		wantAbove, wantName := "", ""
		if wantE == api.OK && len(names) == 0 {
			wantE = api.ErrDir
		} else if wantE == api.OK {
			wantAbove, wantName = modelJoin(names[:len(names)-1]), names[len(names)-1]
		}
		if above, name, e := Last(s); above != wantAbove || name != wantName || e != wantE {
			t.Errorf("Last(%q) = %q, %q, %d, not %q, %q, %d", s, above, name, e, wantAbove, wantName, wantE)
		}
	}
}

func TestLastByItsWords(t *testing.T) {
	for s, want := range map[string][2]string{"/a": {"/", "a"}, "/a/b/": {"/a", "b"}, "/a/b/../c": {"/a", "c"}, strings.Repeat("/a", 8): {strings.Repeat("/a", 7), "a"}} {
		if above, name, e := Last(s); above != want[0] || name != want[1] || e != api.OK {
			t.Errorf("Last(%q) = %q, %q, %d", s, above, name, e)
		}
	}
	for s, want := range map[string]api.Errno{"/": api.ErrDir, "/..": api.ErrDir, "/a/..": api.ErrDir, "": api.ErrText, "/a b": api.ErrName, strings.Repeat("/a", 9): api.ErrRange, strings.Repeat("/", 97): api.ErrLarge} {
		if above, name, e := Last(s); above != "" || name != "" || e != want {
			t.Errorf("Last(%q) = %q, %q, %d", s, above, name, e)
		}
	}
}

func TestNothingHandedInIsChanged(t *testing.T) {
	for _, names := range [][]string{nil, {"a"}, {"a", "b", "c"}, times("a", 8), times("a", 9), {"a", ".."}, times(n(24), 4)} {
		whole := append(slices.Clone(names), "spare", "room")
		was := slices.Clone(whole)
		Join(whole[:len(names)]...)
		if !slices.Equal(whole, was) {
			t.Errorf("Join changed %q to %q", was, whole)
		}
	}
}

// TestAnswersAreNewMemory: whoever writes to an answer, spare room included, changes no other answer.
func TestAnswersAreNewMemory(t *testing.T) {
	var lists [][]string
	for _, s := range []string{"/", "/a", "/a/b/c", "/a/b/..", "/a/..", strings.Repeat("/a", 8)} {
		for range 2 {
			names, e := Split(s)
			if e != api.OK {
				t.Fatal(e)
			}
			lists = append(lists, names[:cap(names)])
		}
	}
	for i, list := range lists {
		for j := range list {
			list[j] = n(i)
		}
	}
	for i, list := range lists {
		for _, s := range list {
			if s != n(i) {
				t.Fatalf("answer %d shares memory with another one", i)
			}
		}
	}
	checkSplit(t, "/a/b/c", []string{"a", "b", "c"}, api.OK)
}
