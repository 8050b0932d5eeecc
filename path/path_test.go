package path

import (
	"cmp"
	"regexp"
	"slices"
	"strings"
	"testing"

	"stockyard/api"
)

// The words of the chapter as regular expressions.
const (
	componentForm = `[A-Za-z0-9_+-][A-Za-z0-9_.+-]*`
	directoryForm = `//` + componentForm + `(/` + componentForm + `)*`
	pathForm      = `//` + componentForm + `(/` + componentForm + `)+`
)

func whole(form string) *regexp.Regexp {
	return regexp.MustCompile(`\A` + form + `\z`)
}

// someBytes holds bytes on both sides of "/", and one that no name may have.
const someBytes = "/.+a_B "

// wordsOver lists the texts of at most most of the given bytes.
func wordsOver(bytes string, most int) []string {
	words := []string{""}
	for begin, length := 0, 1; length <= most; length++ {
		end := len(words)
		for _, w := range words[begin:end] {
			for i := range len(bytes) {
				words = append(words, w+bytes[i:i+1])
			}
		}
		begin = end
	}
	return words
}

// shortPaths lists all paths and directories with few bytes.
func shortPaths() (paths, directories []string) {
	isPath, isDirectory := whole(pathForm), whole(directoryForm)
	for _, w := range wordsOver("/+.aB", 5) {
		if isPath.MatchString("//" + w) {
			paths = append(paths, "//"+w)
		}
		if isDirectory.MatchString("//" + w) {
			directories = append(directories, "//"+w)
		}
	}
	return paths, directories
}

func wantParts(p string) []string {
	return strings.Split(strings.TrimPrefix(p, "//"), "/")
}

func noPaths() []string {
	return []string{
		"", "/", "//", "///", "//a", "//a/", "//a//b", "//a/b/", "/a/b", "a/b", "///a/b", "//a/b//", " //a/b", "//a/b ", "\n//a/b", "//a/b\n",
		"//.a/b", "//a/.b", "//a/.", "//a/..", "//../a", "//a/*", "//a/...", "//a/b\x00", "//a/b\\c", "//a/b@1", "//a/b#1", "//a/ä", "//a/\xff", "//a/b:c", "//a/b,c",
	}
}

// P2.1: all bytes, in the first place of a component and behind it.
func TestComponentOfEachByte(t *testing.T) {
	const later = "ABCDEFGHIJKLMNOPQRSTUVWXYZabcdefghijklmnopqrstuvwxyz0123456789_.+-"
	for c := range 256 {
		s := string([]byte{byte(c)})
		allowed := strings.Contains(later, s)
		if got := Component(s); got != (allowed && s != ".") {
			t.Errorf("Component(%q) is %v", s, got)
		}
		for _, around := range [][2]string{{"a", ""}, {"a", "b"}, {"-", "."}} {
			if got := Component(around[0] + s + around[1]); got != allowed {
				t.Errorf("Component(%q) is %v", around[0]+s+around[1], got)
			}
		}
	}
}

func TestComponentAndValidOfShortTexts(t *testing.T) {
	isComponent, isPath := whole(componentForm), whole(pathForm)
	for _, w := range wordsOver(someBytes, 6) {
		if got := Component(w); got != isComponent.MatchString(w) {
			t.Errorf("Component(%q) is %v", w, got)
		}
		for _, p := range []string{w, "//" + w, "//a/" + w, "//a" + w} {
			if got := Valid(p); got != isPath.MatchString(p) {
				t.Errorf("Valid(%q) is %v", p, got)
			}
		}
	}
}

func TestValid(t *testing.T) {
	for _, p := range []string{"//a/b.psd", "//a/b", "//a/b..", "//-/+", "//0/_/Z", "//a/b.c.d/e", "//a" + strings.Repeat("/b", 5000), "//" + strings.Repeat("x", 70000) + "/y"} {
		if !Valid(p) {
			t.Errorf("%.40q is no path", p)
		}
	}
	for _, p := range noPaths() {
		if Valid(p) {
			t.Errorf("%q is a path", p)
		}
	}
}

// P2.2: Split and Join are inverse to each other.
func TestSplitAndJoinShortPaths(t *testing.T) {
	paths, _ := shortPaths()
	for _, p := range paths {
		parts, e := Split(p)
		if e != api.OK || !slices.Equal(parts, wantParts(p)) {
			t.Errorf("Split(%q) = %q, %d", p, parts, e)
		}
		if back, e := Join(parts); back != p || e != api.OK {
			t.Errorf("Join(%q) = %q, %d", parts, back, e)
		}
	}
}

func TestJoin(t *testing.T) {
	for _, parts := range [][]string{nil, {}, {"a"}, {""}, {"", ""}, {"a", ""}, {"", "a"}, {".a", "b"}, {"a", ".b"}, {"a", "b", "."}, {"a", "b/c"}, {"//a", "b"}, {"a", "b", "c d"}, {"a", "*"}} {
		if p, e := Join(parts); p != "" || e != api.ErrPathParts {
			t.Errorf("Join(%q) = %q, %d", parts, p, e)
		}
	}
	parts := []string{"a", "b.c", "+"}
	if p, e := Join(parts); p != "//a/b.c/+" || e != api.OK || !slices.Equal(parts, []string{"a", "b.c", "+"}) {
		t.Errorf("Join gives %q, %d and leaves %q", p, e, parts)
	}
}

func TestSplitGivesNewLists(t *testing.T) {
	first, _ := Split("//a/b/c")
	first[0] = "x"
	if again, e := Split("//a/b/c"); e != api.OK || !slices.Equal(again, []string{"a", "b", "c"}) {
		t.Errorf("the second list is %q, %d", again, e)
	}
}

// P2.3: the parts of a path.
func TestPartsOfShortPaths(t *testing.T) {
	paths, _ := shortPaths()
	for _, p := range paths {
		parts := wantParts(p)
		last := parts[len(parts)-1]
		wantExtension := ""
		if i := strings.LastIndex(last, "."); i >= 0 {
			wantExtension = last[i:]
		}
		checkParts(t, p, "//"+strings.Join(parts[:len(parts)-1], "/"), last, wantExtension, api.OK)
	}
}

func TestParts(t *testing.T) {
	checkParts(t, "//a/b", "//a", "b", "", api.OK)
	checkParts(t, "//a/b/c/d.psd", "//a/b/c", "d.psd", ".psd", api.OK)
	checkParts(t, "//a/b.tar.gz", "//a", "b.tar.gz", ".gz", api.OK)
	checkParts(t, "//a/b.", "//a", "b.", ".", api.OK)
	checkParts(t, "//a/b..", "//a", "b..", ".", api.OK)
	checkParts(t, "//a.x/b.y/c", "//a.x/b.y", "c", "", api.OK)
	for _, p := range append(noPaths(), "//a.b", "//a.b/c.d/") {
		checkParts(t, p, "", "", "", api.ErrPathForm)
	}
}

func checkParts(t *testing.T, p, wantParent, wantName, wantExtension string, want api.Errno) {
	t.Helper()
	if parent, e := Parent(p); parent != wantParent || e != want {
		t.Errorf("Parent(%q) = %q, %d", p, parent, e)
	}
	if name, e := Name(p); name != wantName || e != want {
		t.Errorf("Name(%q) = %q, %d", p, name, e)
	}
	if extension, e := Extension(p); extension != wantExtension || e != want {
		t.Errorf("Extension(%q) = %q, %d", p, extension, e)
	}
}

// Functions of paths refuse all that is none.
func TestNoPaths(t *testing.T) {
	for _, p := range noPaths() {
		if parts, e := Split(p); parts != nil || e != api.ErrPathForm {
			t.Errorf("Split(%q) = %q, %d", p, parts, e)
		}
		for _, pair := range [][2]string{{p, "//a/b"}, {"//a/b", p}, {p, p}} {
			if c, e := Compare(pair[0], pair[1]); c != 0 || e != api.ErrPathForm {
				t.Errorf("Compare(%q, %q) = %d, %d", pair[0], pair[1], c, e)
			}
		}
		if under, e := Under("//a", p); under || e != api.ErrPathForm {
			t.Errorf("Under(//a, %q) = %v, %d", p, under, e)
		}
	}
}

// wantOrder is P2.4 word by word.
func wantOrder(a, b string) int {
	one, other := wantParts(a), wantParts(b)
	for i := range min(len(one), len(other)) {
		if one[i] != other[i] {
			return strings.Compare(one[i], other[i])
		}
	}
	return cmp.Compare(len(one), len(other))
}

// P2.4: all pairs of some paths.
func TestCompareShortPaths(t *testing.T) {
	paths, _ := shortPaths()
	for _, a := range paths {
		for _, b := range paths {
			if c, e := Compare(a, b); c != wantOrder(a, b) || e != api.OK {
				t.Errorf("Compare(%q, %q) = %d, %d", a, b, c, e)
			}
		}
	}
}

// inOrder lists paths in the order of P2.4: "+", "-" and "." are less than "/", which does not count.
func inOrder() []string {
	return []string{
		"//+/a", "//-/a", "//A/b", "//_/b", "//a/+", "//a/b", "//a/b/+", "//a/b/c", "//a/b/c/d", "//a/b+", "//a/b-/c", "//a/b.", "//a/b.c", "//a/b0/x", "//a/bA", "//a/ba", "//a/bb", "//a+/a", "//a+/b", "//a./a", "//aa/a", "//b/a",
	}
}

func TestCompare(t *testing.T) {
	paths := inOrder()
	for i, a := range paths {
		for j, b := range paths {
			if c, e := Compare(a, b); c != cmp.Compare(i, j) || e != api.OK {
				t.Errorf("Compare(%q, %q) = %d, %d", a, b, c, e)
			}
		}
	}
}

// P2.5: all pairs of some directories and paths.
func TestUnderShortPaths(t *testing.T) {
	paths, directories := shortPaths()
	for _, dir := range directories {
		for _, p := range paths {
			above, parts := wantParts(dir), wantParts(p)
			want := len(parts) > len(above) && slices.Equal(parts[:len(above)], above)
			if got, e := Under(dir, p); got != want || e != api.OK {
				t.Errorf("Under(%q, %q) = %v, %d", dir, p, got, e)
			}
		}
	}
}

func TestUnder(t *testing.T) {
	for _, c := range []struct {
		dir, p string
		want   bool
		e      api.Errno
	}{
		{"//a", "//a/b", true, api.OK},
		{"//a", "//a/b/c/d", true, api.OK},
		{"//a/b", "//a/b/c", true, api.OK},
		{"//a/b", "//a/b", false, api.OK},
		{"//a/b", "//a/bc", false, api.OK},
		{"//a/b", "//a/bc/d", false, api.OK},
		{"//a/b", "//a/b.c/d", false, api.OK},
		{"//a/bc", "//a/b/c", false, api.OK},
		{"//a/b/c", "//a/b", false, api.OK},
		{"//b", "//a/b", false, api.OK},
		{"", "//a/b", false, api.ErrPathForm},
		{"//", "//a/b", false, api.ErrPathForm},
		{"//a/", "//a/b", false, api.ErrPathForm},
		{"/a", "//a/b", false, api.ErrPathForm},
		{"a", "//a/b", false, api.ErrPathForm},
		{"//a//b", "//a/b/c", false, api.ErrPathForm},
		{"//.a", "//a/b", false, api.ErrPathForm},
		{"//...", "//a/b", false, api.ErrPathForm},
		{"//a", "//a", false, api.ErrPathForm},
		{"//a", "//a/", false, api.ErrPathForm},
	} {
		if got, e := Under(c.dir, c.p); got != c.want || e != c.e {
			t.Errorf("Under(%q, %q) = %v, %d", c.dir, c.p, got, e)
		}
	}
}

// P2.6: in each three paths the order is that of numbers, and only equal paths are equal in it.
func TestTotalOrder(t *testing.T) {
	paths := append(inOrder(), "//a/b", "//a.b/c", "//a.b/c/d", "//a.b/c.d")
	for _, a := range paths {
		for _, b := range paths {
			ab, _ := Compare(a, b)
			ba, _ := Compare(b, a)
			if ab != -ba || (ab == 0) != (a == b) {
				t.Errorf("%q and %q compare as %d and %d", a, b, ab, ba)
			}
			for _, c := range paths {
				bc, _ := Compare(b, c)
				ac, _ := Compare(a, c)
				if ab <= 0 && bc <= 0 && ac > 0 {
					t.Errorf("%q, %q and %q go round", a, b, c)
				}
			}
		}
	}
}

// P2.6: sorted, the paths under a directory stand in one row.
func TestNeighbours(t *testing.T) {
	paths, directories := shortPaths()
	slices.SortFunc(paths, func(a, b string) int {
		c, _ := Compare(a, b)
		return c
	})
	for _, dir := range directories {
		rows := 0
		before := false
		for _, p := range paths {
			under, e := Under(dir, p)
			if e != api.OK {
				t.Fatalf("Under(%q, %q): %d", dir, p, e)
			}
			if under && !before {
				rows++
			}
			before = under
		}
		if rows > 1 {
			t.Errorf("the paths under %q stand in %d rows", dir, rows)
		}
	}
}
