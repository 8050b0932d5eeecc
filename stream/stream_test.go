package stream

import (
	"regexp"
	"slices"
	"strings"
	"testing"

	"stockyard/api"
	"stockyard/mapping"
	"stockyard/region"
	"stockyard/rule"
)

const componentForm = `[A-Za-z0-9_+-][A-Za-z0-9_.+-]*`

// parted is the pattern of a text that need not be one of a pattern.
func parted(s string) api.Pattern {
	s, rest := strings.CutSuffix(s, "/...")
	return api.Pattern{Parts: strings.Split(strings.TrimPrefix(s, "//"), "/"), Rest: rest}
}

func patternText(p api.Pattern) string {
	s := "//" + strings.Join(p.Parts, "/")
	if p.Rest {
		s += "/..."
	}
	return s
}

// text joins the texts of entries, "LEFT > RIGHT - HOLE HOLE ..", by "; ".
func text(m []api.Entry) string {
	var list []string
	for _, x := range m {
		s := patternText(x.Left) + " > " + patternText(x.Right)
		for i, h := range x.Holes {
			if i == 0 {
				s += " -"
			}
			s += " " + patternText(h)
		}
		list = append(list, s)
	}
	return strings.Join(list, "; ")
}

func kindWords() map[string]int {
	return map[string]int{"minus": -1, "none": 0, "share": 1, "isolate": 2, "import": 3, "exclude": 4, "five": 5}
}

// pathLine reads a path line from "KIND PATH" or "KIND PATH FROM".
func pathLine(s string) api.StreamPath {
	words := strings.Fields(s)
	line := api.StreamPath{Kind: kindWords()[words[0]], Path: parted(words[1])}
	if len(words) > 2 {
		line.From = parted(words[2])
	}
	return line
}

// streamOf reads a stream from "NAME PARENT: LINE; LINE ..", in which the parent may be missing.
func streamOf(s string) api.Stream {
	head, body, _ := strings.Cut(s, ":")
	name, parent, _ := strings.Cut(head, " ")
	x := api.Stream{Name: name, Parent: parent}
	for _, line := range strings.Split(body, ";") {
		if strings.TrimSpace(line) != "" {
			x.Paths = append(x.Paths, pathLine(line))
		}
	}
	return x
}

func streamsOf(texts ...string) []api.Stream {
	var l []api.Stream
	for _, s := range texts {
		l = append(l, streamOf(s))
	}
	return l
}

// streamsText is what streamsOf reads, with " | " between the texts.
func streamsText(l []api.Stream) string {
	var list []string
	for _, x := range l {
		var lines []string
		for _, line := range x.Paths {
			for word, kind := range kindWords() {
				if kind == line.Kind {
					lines = append(lines, " "+strings.TrimSuffix(word+" "+patternText(line.Path)+" "+patternText(line.From), " //"))
				}
			}
		}
		list = append(list, x.Name+" "+x.Parent+":"+strings.Join(lines, ";"))
	}
	return strings.Join(list, " | ")
}

// example lists the streams of the chapter's examples, and two more below dev.
func example() []api.Stream {
	return streamsOf(
		"main: share //view/...; import //view/lib/... //libs/v1/...; exclude //view/*.tmp",
		"dev main: share //view/...; isolate //view/build/...; exclude //view/doc/...",
		"task dev: share //view/build/...; share //view/src/...; import //view/src/x/*/* //other/x/*.y/*; import //view/lib/z //other2/z; exclude //view/src/x/a/*",
		"none dev:",
	)
}

// deep is the text of the part first and, behind it, count times part.
func deep(first, part string, count int) string {
	return "//" + first + strings.Repeat("/"+part, count)
}

// numbered lists count texts, each of which has a number of two digits, from first on, in the place of "#".
func numbered(form string, first, count int) []string {
	var list []string
	for i := range count {
		number := string([]byte{byte('0' + (first+i)/10), byte('0' + (first+i)%10)})
		list = append(list, strings.ReplaceAll(form, "#", number))
	}
	return list
}

// listed is numbered from 0 on with "; " between the texts.
func listed(form string, count int) string {
	return strings.Join(numbered(form, 0, count), "; ")
}

// errorsOf lists the errors of the functions that are asked for a stream, and says whether one of them has a result.
func errorsOf(l []api.Stream, name string) ([]api.Errno, bool) {
	names, e := Ancestors(l, name)
	kind, source, f := Locate(l, name, "//view/a/b")
	m, g := View(l, name)
	n, h := Between(l, name)
	return []api.Errno{e, f, g, h}, len(names) > 0 || kind != 0 || source != "" || len(m) > 0 || len(n) > 0
}

// refused reports whether all functions return the error, and Check with the index.
func refused(t *testing.T, l []api.Stream, at int, want api.Errno) {
	t.Helper()
	if i, e := Check(l); i != at || e != want {
		t.Errorf("Check(%.300s) is %d, %d, not %d, %d", streamsText(l), i, e, at, want)
	}
	for _, x := range append(slices.Clone(l), api.Stream{}, api.Stream{Name: "nobody"}, api.Stream{Name: "view"}) {
		if list, found := errorsOf(l, x.Name); !slices.Equal(list, []api.Errno{want, want, want, want}) || found {
			t.Errorf("%.300s: the errors for %q are %v, %v, not %d", streamsText(l), x.Name, list, found, want)
		}
	}
}

// accepted reports whether Check has no error, and the others but that there is no stream of a name.
func accepted(t *testing.T, l []api.Stream) {
	t.Helper()
	if i, e := Check(l); i != 0 || e != api.OK {
		t.Errorf("Check(%.300s) is %d, %d", streamsText(l), i, e)
	}
	for _, name := range []string{"", "nobody", "view", "//main", "main/a"} {
		none := api.ErrStreamNone
		if list, found := errorsOf(l, name); !slices.Equal(list, []api.Errno{none, none, none, none}) || found {
			t.Errorf("%.300s: the errors for %q are %v, %v", streamsText(l), name, list, found)
		}
	}
	for _, x := range l {
		if list, _ := errorsOf(l, x.Name); list[0] != api.OK || list[1] != api.OK {
			t.Errorf("%.300s: the errors for %q are %v", streamsText(l), x.Name, list)
		}
	}
}

// P8.1: names of streams, and how many streams there may be.
func TestCheckNames(t *testing.T) {
	for _, name := range []string{"", "view", ".a", "a/b", "a b", "*", "*a", "a*", "...", "//a", "a\x00", "\u00e4", strings.Repeat("n", api.MaxName+1), "." + strings.Repeat("n", api.MaxName), strings.Repeat("n", 70000)} {
		bad := api.Stream{Name: name}
		refused(t, []api.Stream{bad}, 0, api.ErrStreamName)
		refused(t, append(example(), bad, api.Stream{Name: "."}), 4, api.ErrStreamName)
	}
	for _, name := range []string{"a", "-", "+.", "View", "views", "a.b", "9", strings.Repeat("n", api.MaxName)} {
		accepted(t, append(example(), api.Stream{Name: name}))
	}
	var many []api.Stream
	for _, name := range numbered("s#", 0, api.MaxStreams) {
		many = append(many, api.Stream{Name: name})
	}
	accepted(t, nil)
	accepted(t, []api.Stream{})
	accepted(t, many)
	for _, x := range []api.Stream{{Name: "s16"}, {}, {Name: "s01"}, {Name: "a", Parent: "a"}, streamOf("a: share //a/b")} {
		refused(t, append(slices.Clone(many), x), 0, api.ErrStreamLimit)
		refused(t, append([]api.Stream{x}, many...), 0, api.ErrStreamLimit)
	}
	refused(t, make([]api.Stream, 50*api.MaxStreams), 0, api.ErrStreamLimit)
}

// P8.1: path lines that are as described, and how many a stream may have.
func TestCheckPaths(t *testing.T) {
	var bad []api.StreamPath
	for _, s := range []string{
		"none //view/...", "five //view/...", "minus //view/...", "none //view/a //l/a", "five //view/a //l/a",
		"share //x/...", "isolate //views/a", "exclude //View/a", "import //main/a //l/a", "share //*/a", "exclude //*view/...",
		"share //view", "exclude //view/a*", "isolate //view//a", "share //view/.a", "exclude view/", "import //view //l", "import //view/a* //l/a*",
		"share " + deep("view", "a", 12), "exclude " + deep("view", "*", 12) + "/...", "import " + deep("view", "a", 12) + " //l/a",
		"share //view/a //l/a", "isolate //view/... //view/...", "exclude //view/a //l/a", "share //view/a //l/...", "share //view/a //", "exclude //view/a //.",
		"import //view/...", "import //view/a", "import //view/... //l/*", "import //view/* //l/...", "import //view/a //l/*", "import //view/*/* //l/*", "import //view/*/... //l/...", "import //view/* //l/a",
		"import //view/a //view/a", "import //view/... //view/b/...", "import //view/a //l", "import //view/* //l/*/", "import //view/* //*/*", "import //view/a //l/a*", "import //view/a " + deep("l", "a", 12),
	} {
		bad = append(bad, pathLine(s))
	}
	rest := pathLine("share //view/...")
	rest.From.Rest = true
	bad = append(bad, api.StreamPath{}, api.StreamPath{Kind: api.PathShare}, rest, api.StreamPath{Kind: api.PathImport, From: parted("//l/a")})
	for _, line := range bad {
		x := streamOf("x main: share //view/a; exclude //view/b")
		x.Paths = append(x.Paths, line)
		refused(t, []api.Stream{example()[0], x, streamOf("main: share //x/...")}, 1, api.ErrStreamPath)
		x.Paths = append([]api.StreamPath{line}, x.Paths...)
		refused(t, []api.Stream{x}, 0, api.ErrStreamPath)
	}
	empty := pathLine("exclude //view/a")
	empty.From.Parts = []string{}
	good := []api.StreamPath{empty}
	for _, s := range []string{
		"share //view/...", "isolate //view/*", "exclude //view/a", "import //view/... //l/...", "import //view/* //l/*", "import //view/a //l/a",
		"import //view/*/a/... //view2/b/*.c/...", "import " + deep("view", "*", 11) + "/... " + deep("l", "*", 11) + "/...", "share " + deep("view", "a", 11),
	} {
		good = append(good, pathLine(s))
	}
	for _, line := range good {
		accepted(t, []api.Stream{{Name: "a", Paths: []api.StreamPath{pathLine("share //view/..."), line}}})
	}
	accepted(t, streamsOf("s: "+listed("share //view/#", api.MaxStreamPaths)))
	accepted(t, streamsOf("s: "+listed("share //view/a", api.MaxStreamPaths)))
	refused(t, streamsOf("r: "+listed("share //view/a", api.MaxStreamPaths), "s: "+listed("share //view/a", api.MaxStreamPaths+1)), 1, api.ErrStreamLimit)
	refused(t, streamsOf("s: "+listed("exclude //view/#", 50)), 0, api.ErrStreamLimit)
}

// P8.1: parents, cycles and depths.
func TestCheckAncestors(t *testing.T) {
	chain := streamsOf("a:", "b a:", "c b:", "d c:", "e d:", "f e:", "g f:", "h g:")
	backward := slices.Clone(chain)
	slices.Reverse(backward)
	accepted(t, chain[:6])
	accepted(t, backward[2:])
	accepted(t, append(chain[:6:6], streamsOf("g e:", "h e:", "i a:", "j:")...))
	for _, c := range []struct {
		l  []api.Stream
		at int
		e  api.Errno
	}{
		{chain[:7], 6, api.ErrStreamLimit},
		{chain, 6, api.ErrStreamLimit},
		{backward, 0, api.ErrStreamLimit},
		{backward[1:], 0, api.ErrStreamLimit},
		{append(streamsOf("h f:"), chain[:6]...), 0, api.ErrStreamLimit},
		{streamsOf("a b:"), 0, api.ErrStreamParent},
		{streamsOf("a:", "b a:", "c A:", "d x:"), 2, api.ErrStreamParent},
		{streamsOf("a view:"), 0, api.ErrStreamParent},
		{streamsOf("a //a:"), 0, api.ErrStreamParent},
		{streamsOf("a a:"), 0, api.ErrStreamCycle},
		{streamsOf("a b:", "b b:"), 1, api.ErrStreamCycle},
		{streamsOf("a c:", "b a:", "c b:"), 0, api.ErrStreamCycle},
		{streamsOf("x y:", "y c:", "b d:", "c b:", "d c:", "z x:"), 2, api.ErrStreamCycle},
		{streamsOf("m:", "n m:", "b c:", "c b:", "d d:"), 2, api.ErrStreamCycle},
	} {
		refused(t, c.l, c.at, c.e)
	}
	var ring []api.Stream
	for _, name := range numbered("s#", 0, api.MaxStreams) {
		ring = append(ring, api.Stream{Name: name, Parent: "s00"})
		ring[len(ring)-1].Parent = ring[max(0, len(ring)-2)].Name
	}
	ring[0].Parent = ring[len(ring)-1].Name
	refused(t, ring, 0, api.ErrStreamCycle)
	ring[0].Parent = ring[1].Name
	refused(t, ring, 0, api.ErrStreamCycle)
	ring[0].Parent, ring[14].Parent = "s01", "s15"
	ring[1].Parent = ""
	refused(t, ring, 14, api.ErrStreamCycle)
}

// P8.1: imports from the own tree, and of paths that are imported already.
func TestCheckImports(t *testing.T) {
	for _, c := range []struct {
		l  []api.Stream
		at int
	}{
		// From the stream itself, an ancestor, a descendant, another stream of the tree.
		{streamsOf("a: import //view/x/... //a/..."), 0},
		{streamsOf("a: share //view/...; import //view/x //l/x; import //view/y/... //a/b/c/..."), 0},
		{streamsOf("a:", "b a: import //view/x //a/x"), 1},
		{streamsOf("a:", "b a:", "c b: import //view/x //b/x", "d a: import //view/x //a/x"), 2},
		{streamsOf("a:", "b a:", "c b: import //view/x //a/x"), 2},
		{streamsOf("a: import //view/x //b/x", "b a:"), 0},
		{streamsOf("b a:", "c b:", "a: import //view/x //c/x"), 2},
		{streamsOf("a:", "b a: import //view/x //c/x", "c a:"), 1},
		{streamsOf("a:", "b a:", "c b: import //view/x //e/x", "d a:", "e d:"), 2},
		{streamsOf("x:", "y x: import //view/x //a/x", "a:", "b a: import //view/x //x/x; import //view/y //a/y"), 3},
		// The same path by another line of the stream or of an ancestor.
		{streamsOf("a: import //view/x //l/x; import //view/y //l/x"), 0},
		{streamsOf("a: import //view/x //l/x; import //view/x //l/x"), 0},
		{streamsOf("a: share //view/...; import //view/x/... //l/...; isolate //view/y; import //view/* //l/a/*; exclude //view/..."), 0},
		{streamsOf("a: import //view/* //l/*a; import //view/x/* //l/*ba"), 0},
		{streamsOf("a: import //view/x //l/x", "b a: import //view/x //l/x"), 1},
		{streamsOf("b a: import //view/x/* //l/*/a; import //view/y/* //l/b/*", "a:"), 0},
		{streamsOf("b a: import //view/x //l/x", "a: import //view/y/... //l/..."), 0},
		{streamsOf("c b: import //view/x //l/x", "b a:", "a: import //view/y/... //l/..."), 0},
		{streamsOf("a: import //view/y/... //l/...", "b a:", "c b:", "d c:", "e d:", "f e: import //view/x //l/x; import //view/y //m/y"), 5},
		{streamsOf("a: import //view/y/... //l/...", "b a: import //view/x //m/x; import //view/z //l/z", "c b: import //view/x //l/q"), 1},
		// Neither.
		{streamsOf("a: import //view/x //b/x", "b:", "c b:"), -1},
		{streamsOf("a: import //view/x //c/x", "b:", "c b: import //view/x //a/x"), -1},
		{streamsOf("a: import //view/x //aa/x; import //view/y //A/x"), -1},
		{streamsOf("a: import //view/x //l/x; import //view/y //l/y; import //view/z/... //l/x/...; import //view/w //m/x"), -1},
		{streamsOf("a: import //view/* //l/*a; import //view/x/* //l/*b; import //view/y/... //l/a/...; import //view/c //l/c"), -1},
		{streamsOf("a:", "b a: import //view/x //l/x", "c a: import //view/x //l/x", "d:", "e d: import //view/x //l/x"), -1},
		{streamsOf("a: import //view/x //l/x; exclude //view/x; share //view/x", "b a: share //view/x; isolate //view/x"), -1},
	} {
		if c.at < 0 {
			accepted(t, c.l)
		} else {
			refused(t, c.l, c.at, api.ErrStreamPath)
		}
	}
}

// wrong is a list of streams with one fault, whose names have a "#" each: the step that finds it, the index and the error.
type wrong struct {
	step  int
	texts []string
	at    int
	e     api.Errno
}

func wrongs() []wrong {
	return []wrong{
		{2, []string{"a#:", ".#:"}, 1, api.ErrStreamName},
		{2, []string{"a#:", "b#:", "a#:"}, 2, api.ErrStreamTwice},
		{2, []string{"a#:", "b#: share //view/...; exclude //x/..."}, 1, api.ErrStreamPath},
		{2, []string{"b# a#: " + listed("share //view/a", 13), "a#:"}, 0, api.ErrStreamLimit},
		{3, []string{"a#:", "b# c#:"}, 1, api.ErrStreamParent},
		{4, []string{"a# b#:", "b# c#:", "c# b#:"}, 1, api.ErrStreamCycle},
		{5, []string{"a# b#:", "b# c#:", "c# d#:", "d# e#:", "e# f#:", "f# g#:", "g#:"}, 0, api.ErrStreamLimit},
		{6, []string{"a#:", "b# a#: import //view/x/... //a#/..."}, 1, api.ErrStreamPath},
		{6, []string{"a#: import //view/x //l/x; import //view/y //l/x"}, 0, api.ErrStreamPath},
	}
}

// P8.1: of two faults that of the earlier step, and in one step that of the earlier stream.
func TestCheckOrder(t *testing.T) {
	for _, x := range wrongs() {
		first := streamsOf(strings.Split(strings.ReplaceAll(strings.Join(x.texts, "|"), "#", "1"), "|")...)
		refused(t, first, x.at, x.e)
		refused(t, append(example(), first...), 4+x.at, x.e)
		for _, y := range wrongs() {
			second := streamsOf(strings.Split(strings.ReplaceAll(strings.Join(y.texts, "|"), "#", "2"), "|")...)
			if x.step <= y.step {
				refused(t, slices.Concat(first, second), x.at, x.e)
			} else {
				refused(t, slices.Concat(first, second), len(first)+y.at, y.e)
			}
		}
	}
	many := ": exclude //y/...;" + listed("share //view/a", 13)
	for _, c := range []struct {
		l  []api.Stream
		at int
		e  api.Errno
	}{
		// One stream with several faults of step 2.
		{streamsOf("a:", "view"+many, "view"+many), 1, api.ErrStreamName},
		{streamsOf("a:", "a"+many, "."+many), 1, api.ErrStreamTwice},
		{streamsOf("a:", "b"+many, "b"+many), 1, api.ErrStreamPath},
		{streamsOf("a:", "b: "+listed("share //view/a", 12)+"; share //x/a"), 1, api.ErrStreamPath},
		// Parents, cycles and depths that hang on a stream of a name that occurs twice.
		{streamsOf("a b:", "b a:", "a:"), 2, api.ErrStreamTwice},
		{streamsOf("a a:", "b x:"), 1, api.ErrStreamParent},
	} {
		refused(t, c.l, c.at, c.e)
	}
}

// P8.2: the ancestors, the parent first, in whatever order the streams stand.
func TestAncestors(t *testing.T) {
	l := append(example(), streamsOf("x:", "y x:", "f e:", "e d:", "d c:", "c b:", "b a:", "a:")...)
	for name, want := range map[string]string{
		"main": "", "dev": "main", "task": "dev main", "none": "dev main", "x": "", "y": "x",
		"a": "", "b": "a", "c": "b a", "d": "c b a", "e": "d c b a", "f": "e d c b a",
	} {
		if names, e := Ancestors(l, name); strings.Join(names, " ") != want || e != api.OK {
			t.Errorf("the ancestors of %s are %q, %d", name, names, e)
		}
	}
}

// P8.2: what streams see, written out.
func TestLocate(t *testing.T) {
	long, steep := strings.Repeat("/b", 5000), strings.Repeat("b", 5000)
	l := append(example(), streamsOf(
		"lone: import //view/* //main/*; share //view/a; exclude //view/b; isolate //view/c; import //view/*/d/... //l/*-x/...",
		"kid lone: isolate //view/...; share //view/b",
		"kid2 lone: import //view/... //q/...; exclude //view/d; share //view/e",
		"kid3 kid2: isolate //view/...",
	)...)
	for _, c := range []struct {
		name, client string
		kind         int
		source       string
	}{
		{"main", "//view/a", api.PathShare, "//main/a"},
		{"main", "//view/lib/x", api.PathImport, "//libs/v1/x"},
		{"main", "//view/lib/x/y", api.PathImport, "//libs/v1/x/y"},
		{"main", "//view/lib", api.PathShare, "//main/lib"},
		{"main", "//view/a.tmp", 0, ""},
		{"main", "//view/a/b.tmp", api.PathShare, "//main/a/b.tmp"},
		{"main", "//view/lib/a.tmp", api.PathImport, "//libs/v1/a.tmp"},
		{"main", "//view/view/a", api.PathShare, "//main/view/a"},
		{"main", "//view" + long, api.PathShare, "//main" + long},
		{"main", "//view/" + steep, api.PathShare, "//main/" + steep},
		{"main", "//view/lib" + long, api.PathImport, "//libs/v1" + long},
		{"dev", "//view/a", api.PathShare, "//dev/a"},
		{"dev", "//view/build/b", api.PathIsolate, "//dev/build/b"},
		{"dev", "//view/build", api.PathShare, "//dev/build"},
		{"dev", "//view/lib/x", api.PathImport, "//libs/v1/x"},
		{"dev", "//view/doc/d", 0, ""},
		{"dev", "//view/a.tmp", 0, ""},
		{"task", "//view/a", 0, ""},
		{"task", "//view/build/b", api.PathIsolate, "//task/build/b"},
		{"task", "//view/src/a", api.PathShare, "//task/src/a"},
		{"task", "//view/src/x/b/c", api.PathImport, "//other/x/b.y/c"},
		{"task", "//view/src/x/a/c", 0, ""},
		{"task", "//view/src/x/a", api.PathShare, "//task/src/x/a"},
		{"task", "//view/src/x/a/b/c", api.PathShare, "//task/src/x/a/b/c"},
		{"task", "//view/lib/z", api.PathImport, "//libs/v1/z"},
		{"task", "//view/lib/y", 0, ""},
		{"none", "//view/a", 0, ""},
		{"lone", "//view/x", api.PathImport, "//main/x"},
		{"lone", "//view/a", api.PathShare, "//lone/a"},
		{"lone", "//view/b", 0, ""},
		{"lone", "//view/c", api.PathIsolate, "//lone/c"},
		{"lone", "//view/x/d/e/f", api.PathImport, "//l/x-x/e/f"},
		{"lone", "//view/x/d", 0, ""},
		{"kid", "//view/x", api.PathImport, "//main/x"},
		{"kid", "//view/a", api.PathIsolate, "//kid/a"},
		{"kid", "//view/b", 0, ""},
		{"kid", "//view/c", api.PathIsolate, "//kid/c"},
		{"kid2", "//view/a", api.PathImport, "//q/a"},
		{"kid2", "//view/c", api.PathImport, "//q/c"},
		{"kid2", "//view/x", api.PathImport, "//main/x"},
		{"kid2", "//view/d", 0, ""},
		{"kid2", "//view/e", api.PathImport, "//main/e"},
		{"kid3", "//view/a", api.PathImport, "//q/a"},
		{"kid3", "//view/e", api.PathImport, "//main/e"},
		{"kid3", "//view/x/d", 0, ""},
	} {
		if kind, source, e := Locate(l, c.name, c.client); kind != c.kind || source != c.source || e != api.OK {
			t.Errorf("%s sees %.60s as %d, %.60q, %d", c.name, c.client, kind, source, e)
		}
	}
	for _, client := range []string{"", "//view", "//view/", "/view/a", "view/a", "//view//a", "//view/a/", "//view/.a", "//view/*", "//view/...", "//view/a b", "//views/a", "//View/a", "//main/a", "//libs/v1/a", "///view/a", "//a/view/a", "//view/a" + long + "/"} {
		for _, x := range l {
			if kind, source, e := Locate(l, x.Name, client); kind != 0 || source != "" || e != api.OK {
				t.Errorf("%s sees %.60q as %d, %.60q, %d", x.Name, client, kind, source, e)
			}
		}
	}
}

// model says by regular expressions which paths match patterns, and remembers it.
type model struct {
	forms map[string]*regexp.Regexp
	known map[[2]string][]string
}

func newModel() *model {
	return &model{forms: map[string]*regexp.Regexp{}, known: map[[2]string][]string{}}
}

// captures are those of a path that matches a pattern, behind the path; there are none if it does not match.
func (w *model) captures(p api.Pattern, file string) []string {
	key := patternText(p)
	found, ok := w.known[[2]string{key, file}]
	if ok {
		return found
	}
	form := w.forms[key]
	if form == nil {
		form = formOf(p)
		w.forms[key] = form
	}
	found = form.FindStringSubmatch(file)
	w.known[[2]string{key, file}] = found
	return found
}

func formOf(p api.Pattern) *regexp.Regexp {
	form := `\A/`
	for _, part := range p.Parts {
		if suffix, found := strings.CutPrefix(part, "*"); found {
			form += `/(` + componentForm + `)` + regexp.QuoteMeta(suffix)
		} else {
			form += `/` + regexp.QuoteMeta(part)
		}
	}
	if p.Rest {
		form += `/(` + componentForm + `(?:/` + componentForm + `)*)`
	}
	return regexp.MustCompile(form + `\z`)
}

func (w *model) matches(p api.Pattern, file string) bool {
	return w.captures(p, file) != nil
}

// related is the path to which a line with these sides relates a left path, and empty if there is none.
func (w *model) related(left, right api.Pattern, file string) string {
	found := w.captures(left, file)
	if found == nil {
		return ""
	}
	found = found[1:]
	s := "/"
	for _, part := range right.Parts {
		if suffix, starred := strings.CutPrefix(part, "*"); starred {
			part, found = found[0]+suffix, found[1:]
		}
		s += "/" + part
	}
	return strings.Join(append([]string{s}, found...), "/")
}

// backward is the left path to which entries relate a right path: empty if there is none, and no path if there are several.
func (w *model) backward(m []api.Entry, file string) string {
	var list []string
	for _, x := range m {
		left := w.related(x.Right, x.Left, file)
		if left != "" && !slices.ContainsFunc(x.Holes, func(h api.Pattern) bool { return w.matches(h, left) }) {
			list = append(list, left)
		}
	}
	return strings.Join(list, " and ")
}

func named(l []api.Stream, name string) api.Stream {
	return l[slices.IndexFunc(l, func(x api.Stream) bool { return x.Name == name })]
}

// sees is what a stream sees of a client path, by the words of the chapter.
func (w *model) sees(l []api.Stream, name, client string) (int, string) {
	x, decides := named(l, name), -1
	for i, line := range x.Paths {
		if w.matches(line.Path, client) {
			decides = i
		}
	}
	if decides < 0 || x.Paths[decides].Kind == api.PathExclude {
		return 0, ""
	}
	line, own := x.Paths[decides], "//"+name+strings.TrimPrefix(client, "//view")
	if x.Parent == "" {
		if line.Kind == api.PathImport {
			return line.Kind, w.related(line.Path, line.From, client)
		}
		return line.Kind, own
	}
	kind, source := w.sees(l, x.Parent, client)
	if kind == 0 || kind == api.PathImport {
		return kind, source
	}
	if line.Kind == api.PathImport {
		return line.Kind, w.related(line.Path, line.From, client)
	}
	if line.Kind == api.PathShare && kind == api.PathShare {
		return api.PathShare, own
	}
	return api.PathIsolate, own
}

// block is a piece with its sources.
type block struct {
	kind           int
	region         api.Region
	client, source api.Pattern
}

// blocks are the pieces of a stream as the chapter lists them.
func blocks(l []api.Stream, name string) []block {
	var list []block
	x := named(l, name)
	own := func(g api.Region) api.Pattern {
		return parted("//" + name + strings.TrimPrefix(patternText(g.Base), "//view"))
	}
	for i, line := range x.Paths {
		g := api.Region{Base: line.Path}
		for _, later := range x.Paths[i+1:] {
			g.Holes = append(g.Holes, later.Path)
		}
		g, _ = region.Simplify(g)
		if line.Kind == api.PathExclude {
			continue
		}
		if x.Parent == "" {
			b := block{line.Kind, g, g.Base, own(g)}
			if line.Kind == api.PathImport {
				b.source = line.From
			}
			if empty, _ := region.Empty(g); !empty {
				list = append(list, b)
			}
			continue
		}
		for _, up := range blocks(l, x.Parent) {
			both, ok, _ := region.Meet(g, up.region)
			b := block{api.PathIsolate, both, both.Base, own(both)}
			if up.kind == api.PathShare && line.Kind == api.PathShare {
				b.kind = api.PathShare
			}
			if up.kind == api.PathImport || line.Kind == api.PathImport {
				r := api.Rule{Left: up.client, Right: up.source}
				if up.kind != api.PathImport {
					r = api.Rule{Left: line.Path, Right: line.From}
				}
				r, _, _ = rule.NarrowLeft(r, both.Base)
				b.kind, b.source = api.PathImport, r.Right
			}
			if ok {
				list = append(list, b)
			}
		}
	}
	return list
}

// entries are those of the view of a stream, and of what is between it and its parent.
func entries(l []api.Stream, name string) (whole, between []api.Entry) {
	for _, b := range blocks(l, name) {
		r := api.Rule{Left: b.source, Right: b.client}
		g := api.Region{Base: b.source}
		for _, h := range b.region.Holes {
			narrow, _, _ := rule.NarrowRight(r, h)
			g.Holes = append(g.Holes, narrow.Left)
		}
		g, _ = region.Simplify(g)
		whole = append(whole, api.Entry{Left: b.source, Right: b.client, Holes: g.Holes})
		if parent := named(l, name).Parent; b.kind == api.PathShare && parent != "" {
			theirs := parted("//" + parent + strings.TrimPrefix(patternText(b.client), "//view"))
			between = append(between, api.Entry{Left: b.source, Right: theirs, Holes: g.Holes})
		}
	}
	return whole, between
}

// dice is a row of numbers that is the same in every run.
type dice uint64

func (d *dice) below(n int) int {
	*d = *d*6364136223846793005 + 1442695040888963407
	return int(*d>>33) % n
}

// pathLine gives a path line whose import, if it is one, is from paths that have the given first part.
func (d *dice) pathLine(first string) api.StreamPath {
	ends := []string{"/...", "/*", "/*/...", "/a/...", "/*a", "/a", "/*/a", "/b/*", "/a/*/...", "/*/*", "/*a/b"}
	end := ends[d.below(len(ends))]
	line := api.StreamPath{Kind: 1 + d.below(4), Path: parted("//view" + end)}
	if line.Kind != api.PathImport {
		return line
	}
	switch d.below(4) {
	case 0:
		end = "/x" + end
	case 1:
		end = strings.ReplaceAll(end, "*", "*.z")
	case 2:
		end = strings.ReplaceAll(end, "a/", "")
	}
	line.From = parted("//" + first + end)
	if len(line.From.Parts) == 1 && !line.From.Rest {
		line.From.Parts = append(line.From.Parts, "y")
	}
	return line
}

// family gives three streams, each the parent of the next one, in one order or the other, and one that has another parent.
func (d *dice) family() []api.Stream {
	var l []api.Stream
	for i, name := range []string{"main", "dev", "task", "dev2"} {
		x := api.Stream{Name: name, Parent: []string{"", "main", "dev", "main"}[i]}
		if d.below(3) > 0 {
			x.Paths = append(x.Paths, pathLine("share //view/..."))
		}
		for range d.below(4) {
			x.Paths = append(x.Paths, d.pathLine(name+"-"+string([]byte{byte('0' + len(x.Paths))})))
		}
		l = append(l, x)
	}
	if d.below(2) > 0 {
		slices.Reverse(l)
	}
	return l
}

// someFiles lists paths below //view of one to four components that tell the streams of family apart.
func someFiles() []string {
	var list []string
	row := []string{"//view"}
	for _, names := range [][]string{{"a", "b", "c", "aa", "ba", "view"}, {"a", "b", "ca", "x"}, {"a", "b"}, {"a"}} {
		var next []string
		for _, dir := range row {
			for _, name := range names {
				next = append(next, dir+"/"+name)
			}
		}
		list = append(list, next...)
		row = next
	}
	return list
}

// P8.2 to P8.4: all that some streams see of some paths, by the words of the chapter.
func TestSomeFamilies(t *testing.T) {
	w, files, d := newModel(), someFiles(), dice(1)
	counts := map[int]int{}
	for range 500 {
		l := d.family()
		accepted(t, l)
		for _, x := range l {
			whole, e := View(l, x.Name)
			between, f := Between(l, x.Name)
			if x.Parent == "" {
				between, f = nil, api.OK
			}
			if e != api.OK || f != api.OK {
				t.Fatalf("%s of %s: %d, %d", x.Name, streamsText(l), e, f)
			}
			w.compare(t, l, x, files, whole, between, counts)
		}
	}
	for kind := range 5 {
		if kind != api.PathExclude && counts[kind] < 1000 {
			t.Errorf("only %d paths of kind %d", counts[kind], kind)
		}
	}
}

// compare holds Locate and the mappings of a stream against the model.
func (w *model) compare(t *testing.T, l []api.Stream, x api.Stream, files []string, whole, between []api.Entry, counts map[int]int) {
	t.Helper()
	sources := map[string]bool{}
	for _, client := range files {
		kind, source := w.sees(l, x.Name, client)
		counts[kind]++
		if k, s, e := Locate(l, x.Name, client); k != kind || s != source || e != api.OK {
			t.Errorf("%s of %s sees %s as %d, %q, %d, not %d, %q", x.Name, streamsText(l), client, k, s, e, kind, source)
		}
		if s := w.backward(whole, client); s != source {
			t.Errorf("%s relates %s and %q, not %q: View of %s of %s", text(whole), client, s, source, x.Name, streamsText(l))
		}
		if source != "" && sources[source] {
			t.Errorf("%s of %s sees %s twice", x.Name, streamsText(l), source)
		}
		sources[source] = true
		if kind != api.PathShare {
			source = ""
		}
		theirs := "//" + x.Parent + strings.TrimPrefix(client, "//view")
		if s := w.backward(between, theirs); x.Parent != "" && s != source {
			t.Errorf("%s relates %s and %q, not %q: Between of %s of %s", text(between), theirs, s, source, x.Name, streamsText(l))
		}
	}
	for _, m := range [][]api.Entry{whole, between} {
		if i, e := mapping.Check(m); i != 0 || e != api.OK {
			t.Errorf("Check(%s) is %d, %d: %s of %s", text(m), i, e, x.Name, streamsText(l))
		}
	}
}

// P8.3 and P8.4: the entries of some streams, by the list of the chapter.
func TestEntriesOfSomeFamilies(t *testing.T) {
	d := dice(2)
	for range 3000 {
		l := d.family()
		for _, x := range l {
			whole, between := entries(l, x.Name)
			if m, e := View(l, x.Name); text(m) != text(whole) || e != api.OK {
				t.Errorf("View of %s of %s is %s, %d, not %s", x.Name, streamsText(l), text(m), e, text(whole))
			}
			if m, e := Between(l, x.Name); x.Parent != "" && (text(m) != text(between) || e != api.OK) {
				t.Errorf("Between of %s of %s is %s, %d, not %s", x.Name, streamsText(l), text(m), e, text(between))
			}
		}
	}
}

// P8.3 and P8.4: entries, written out.
func TestViewAndBetween(t *testing.T) {
	l := append(example(), streamsOf(
		"one: isolate //view/b/...; share //view/a/*; import //view/c/* //l/x/*.x; share //view/a/y; exclude //view/c/a; exclude //view/c/a-; exclude //view/z",
		"two one: share //view/*/*; isolate //view/a/y; import //view/b/... //m/...; exclude //view/*/q; exclude //view/b/*/r; share //view/d",
		"gone:",
		"gone2 one: share //view/q; isolate //view/b/x; exclude //view/b/*",
		"wide: share //view/...; share //view/...; exclude //view/e",
		"over wide: import //view/*/... //n/*-o/p/...; share //view/a/b",
	)...)
	dev := "//dev/... > //view/... - //dev/*.tmp //dev/build/... //dev/doc/... //dev/lib/..."
	for _, c := range []struct{ name, view, between string }{
		{"main", "//main/... > //view/... - //main/*.tmp //main/lib/...; //libs/v1/... > //view/lib/...", ""},
		{"dev", dev + "; //libs/v1/... > //view/lib/...; //dev/build/... > //view/build/...", strings.Replace(dev, "//view", "//main", 1)},
		{"task", "//task/build/... > //view/build/...; //task/src/... > //view/src/... - //task/src/x/*/*; //other/x/*.y/* > //view/src/x/*/* - //other/x/a.y/*; //libs/v1/z > //view/lib/z",
			"//task/src/... > //dev/src/... - //task/src/x/*/*"},
		{"none", "", ""},
		{"one", "//one/b/... > //view/b/...; //one/a/* > //view/a/* - //one/a/y; //l/x/*.x > //view/c/* - //l/x/a-.x //l/x/a.x; //one/a/y > //view/a/y", ""},
		{"two", "//two/a/* > //view/a/* - //two/a/q //two/a/y; //l/x/*.x > //view/c/* - //l/x/a-.x //l/x/a.x //l/x/q.x; //two/a/y > //view/a/y; //m/... > //view/b/... - //m/*/r //m/q",
			"//two/a/* > //one/a/* - //two/a/q //two/a/y"},
		{"gone", "", ""},
		{"gone2", "", ""},
		{"wide", "//wide/... > //view/... - //wide/e", ""},
		{"over", "//n/*-o/p/... > //view/*/... - //n/a-o/p/b; //over/a/b > //view/a/b", "//over/a/b > //wide/a/b"},
	} {
		if m, e := View(l, c.name); text(m) != c.view || e != api.OK {
			t.Errorf("View of %s is %s, %d", c.name, text(m), e)
		}
		want := api.OK
		if named(l, c.name).Parent == "" {
			want = api.ErrStreamMainline
		}
		if m, e := Between(l, c.name); text(m) != c.between || e != want {
			t.Errorf("Between of %s is %s, %d", c.name, text(m), e)
		}
	}
}

// tower lists streams s0, s1 and so on, each the parent of the next one, which share a pattern but for some others.
func tower(path string, without ...[]string) []api.Stream {
	var l []api.Stream
	names := numbered("s#", 0, len(without))
	for i, list := range without {
		x := api.Stream{Name: names[i], Paths: []api.StreamPath{pathLine("share " + path)}}
		if i > 0 {
			x.Parent = names[i-1]
		}
		for _, p := range list {
			x.Paths = append(x.Paths, pathLine("exclude "+p))
		}
		l = append(l, x)
	}
	return l
}

// stairs are patterns that leave no path below a directory: one for each number of components up to the greatest one of
// patterns, and one for all greater ones. Those of the directories below it with a name lie within none of them.
func stairs(dir string) []string {
	var list []string
	for len(parted(dir).Parts) < api.MaxParts {
		dir += "/*"
		list = append(list, dir)
	}
	return append(list, dir+"/...")
}

// limited reports whether View and Between return ErrStreamLimit, or else as many entries.
func limited(t *testing.T, l []api.Stream, name string, count int, want api.Errno) {
	t.Helper()
	accepted(t, l)
	m, e := View(l, name)
	if len(m) != count || e != want {
		t.Errorf("View of %s of %.300s is %.300s, %d, not %d entries, %d", name, streamsText(l), text(m), e, count, want)
	}
	whole, between := entries(l, name)
	if want == api.OK && text(m) != text(whole) {
		t.Errorf("View of %s of %.300s is %.300s", name, streamsText(l), text(m))
	}
	if want != api.OK {
		between = nil
	} else if named(l, name).Parent == "" {
		want = api.ErrStreamMainline
	}
	if m, e := Between(l, name); text(m) != text(between) || e != want {
		t.Errorf("Between of %s of %.300s is %.300s, %d, not %.300s, %d", name, streamsText(l), text(m), e, text(between), want)
	}
}

// P8.3 and P8.4: holes as many as a region may have, and more, also of pieces that are empty.
func TestLimitOfHoles(t *testing.T) {
	rows := func(form string, counts ...int) [][]string {
		var list [][]string
		first := 0
		for _, n := range counts {
			list = append(list, numbered(form, first, n))
			first += n
		}
		return list
	}
	most := tower("//view/...", rows("//view/#", 11, 11, 11, 11, 11, 9)...)
	more := tower("//view/...", rows("//view/#", 11, 11, 11, 11, 11, 10)...)
	limited(t, most, "s05", 1, api.OK)
	limited(t, more, "s05", 0, api.ErrStreamLimit)
	limited(t, more, "s04", 1, api.OK)
	if kind, source, e := Locate(more, "s05", "//view/99"); kind != api.PathShare || source != "//s05/99" || e != api.OK {
		t.Errorf("Locate has a limit: %d, %q, %d", kind, source, e)
	}
	if kind, source, e := Locate(more, "s05", "//view/64"); kind != 0 || source != "" || e != api.OK {
		t.Errorf("Locate has a limit: %d, %q, %d", kind, source, e)
	}
	// The holes are counted when they are simplified.
	same := numbered("//view/#", 0, 11)
	limited(t, tower("//view/...", same, same, same, same, same, same), "s05", 1, api.OK)
	more[5].Paths[1] = pathLine("exclude //view/*")
	limited(t, more, "s05", 1, api.OK)
	// A path line that does not meet a piece of the parent makes no piece.
	apart := tower("//view/a/...", rows("//view/a/#", 11, 11, 11, 11, 11, 0)...)
	apart[5] = tower("//view/b/...", numbered("//view/b/#", 0, 11))[0]
	apart[5].Name, apart[5].Parent = "s05", "s04"
	limited(t, apart, "s05", 0, api.OK)

	// An empty piece of the stream itself: 54 holes or 52 and twelve stairs, of which the last stream has eleven.
	steps := stairs("//view")
	empty := rows("//view/#/...", 10, 11, 11, 11, 11)
	empty[0] = append(empty[0], steps[0])
	limited(t, tower("//view/...", append(slices.Clone(empty), steps[1:])...), "s05", 0, api.ErrStreamLimit)
	fewer := slices.Clone(empty)
	fewer[4] = fewer[4][2:]
	limited(t, tower("//view/...", append(fewer, steps[1:])...), "s05", 0, api.OK)
	// An empty path line of the stream itself: 55 holes or 53 and eleven stairs.
	steps = stairs("//view/a")
	empty = rows("//view/a/#/...", 11, 11, 11, 11, 11)
	limited(t, tower("//view/a/...", append(slices.Clone(empty), steps)...), "s05", 0, api.ErrStreamLimit)
	fewer = slices.Clone(empty)
	fewer[4] = fewer[4][2:]
	limited(t, tower("//view/a/...", append(fewer, steps)...), "s05", 0, api.OK)
	// An empty piece of the parent is left out, before it is intersected.
	left := slices.Concat([][]string{steps}, rows("//view/a/#/...", 11, 11, 11, 11, 11))
	limited(t, tower("//view/a/...", left...), "s05", 0, api.OK)
}

// P8.3 and P8.4: pieces as many as a mapping may have entries, and more, of a stream and of its ancestors.
func TestLimitOfPieces(t *testing.T) {
	cross := func(n, m int, more string) []api.Stream {
		return streamsOf("a: "+listed("share //view/*/x#", n), "b a: "+listed("share //view/y#/*", m)+more, "c b: share //view/y00/x00", "d c:")
	}
	limited(t, cross(4, 8, ""), "b", 32, api.OK)
	limited(t, cross(4, 8, ""), "c", 1, api.OK)
	limited(t, cross(4, 8, ""), "d", 0, api.OK)
	limited(t, cross(3, 11, ""), "a", 3, api.OK)
	limited(t, cross(3, 11, "; isolate //view/z/z"), "b", 0, api.ErrStreamLimit)
	limited(t, cross(12, 12, ""), "a", 12, api.OK)
	for _, name := range []string{"b", "c", "d"} {
		limited(t, cross(3, 11, ""), name, 0, api.ErrStreamLimit)
		limited(t, cross(12, 12, ""), name, 0, api.ErrStreamLimit)
	}
	// Pieces that are empty do not count.
	limited(t, cross(3, 11, "; exclude //view/y02/x01"), "b", 32, api.OK)
	limited(t, cross(12, 11, "; exclude //view/*/*"), "b", 0, api.OK)
	limited(t, cross(12, 11, "; exclude //view/*/*"), "d", 0, api.OK)
}

// P8.3 and P8.4: sources with as many parts as a pattern may have, and more.
func TestLimitOfParts(t *testing.T) {
	long := "import //view/... " + deep("l", "x", 10) + "/..."
	far := "import //view/b/... " + deep("l", "x", 10) + "/..."
	for _, c := range []struct {
		l     []api.Stream
		name  string
		count int
		e     api.Errno
	}{
		// The line of a piece, which the parent or the stream itself imports.
		{streamsOf("a: "+long, "b a: share //view/p"), "b", 1, api.OK},
		{streamsOf("a: "+long, "b a: share //view/*/..."), "b", 1, api.OK},
		{streamsOf("a: "+long, "b a: share //view/p/q"), "b", 0, api.ErrStreamLimit},
		{streamsOf("a: "+long, "b a: share //view/r; isolate //view/p/*"), "b", 0, api.ErrStreamLimit},
		{streamsOf("a: "+long, "b a: import //view/p/q //m/p"), "b", 0, api.ErrStreamLimit},
		{streamsOf("a: "+long, "b a: share //view/p/q"), "a", 1, api.OK},
		{streamsOf("a: share //view/p", "b a: "+long), "b", 1, api.OK},
		{streamsOf("a: share //view/p/q/...", "b a: "+long), "b", 0, api.ErrStreamLimit},
		{streamsOf("a: isolate //view/p/q", "b a: "+long), "b", 0, api.ErrStreamLimit},
		{streamsOf("a: share "+deep("view", "p", 11), "b a: share //view/..."), "b", 1, api.OK},
		// The line of a piece of an ancestor, whether the stream sees its paths or not.
		{streamsOf("a: "+long, "b a: share //view/p/q", "c b: share //view/p/q"), "c", 0, api.ErrStreamLimit},
		{streamsOf("a: "+long, "b a: share //view/p/q; share //view/r", "c b: share //view/r"), "c", 0, api.ErrStreamLimit},
		{streamsOf("a: "+long, "b a: share //view/p/q", "c b:"), "c", 0, api.ErrStreamLimit},
		{streamsOf("a: "+long, "b a: share //view/p/q", "c a: share //view/p"), "c", 1, api.OK},
		// Pieces that are empty do not count.
		{streamsOf("a: "+long, "b a: share //view/p/q; exclude //view/p/*"), "b", 0, api.OK},
		{streamsOf("a: "+long+"; exclude //view/p/...", "b a: share //view/p/q"), "b", 0, api.OK},
		{streamsOf("a: "+long+"; share //view/p/...", "b a: share //view/p/q"), "b", 1, api.OK},
		// The holes of a piece of the stream itself, and not of an ancestor.
		{streamsOf("a: " + long + "; exclude //view/p; exclude //view/q/..."), "a", 1, api.OK},
		{streamsOf("a: " + long + "; exclude //view/p/q"), "a", 0, api.ErrStreamLimit},
		{streamsOf("a: " + long + "; share //view/*/q"), "a", 0, api.ErrStreamLimit},
		{streamsOf("a: "+long+"; exclude //view/p/q", "b a: share //view/..."), "b", 0, api.ErrStreamLimit},
		{streamsOf("a: "+long+"; exclude //view/p/q", "b a: share //view/r/..."), "b", 1, api.OK},
		{streamsOf("a: "+long+"; exclude //view/p/q", "b a: share //view/...; exclude //view/p/..."), "b", 1, api.OK},
		{streamsOf("a: "+long+"; exclude //view/p/q", "b a:"), "b", 0, api.OK},
		{streamsOf("a: share //view/...; exclude //view/p/q", "b a: "+long), "b", 0, api.ErrStreamLimit},
		// Between has the limits of pieces that it leaves out, too.
		{streamsOf("a: share //view/...; "+far, "b a: share //view/...; exclude //view/b/p"), "b", 2, api.OK},
		{streamsOf("a: share //view/...; "+far, "b a: share //view/...; exclude //view/b/p/q"), "b", 0, api.ErrStreamLimit},
		{streamsOf("a: share //view/...; "+far, "b a: share //view/...; share //view/b/p/q"), "b", 0, api.ErrStreamLimit},
	} {
		limited(t, c.l, c.name, c.count, c.e)
		if kind, source, e := Locate(c.l, "a", "//view/b/p/r"); kind == api.PathImport && !strings.HasPrefix(source, deep("l", "x", 10)) || e != api.OK {
			t.Errorf("Locate(%s) is %d, %q, %d", streamsText(c.l), kind, source, e)
		}
	}
	l := streamsOf("a: "+long+"; exclude //view/r/s/t", "b a: share //view/p/q", "c b: share //view/p/...")
	for _, name := range []string{"b", "c"} {
		if kind, source, e := Locate(l, name, "//view/p/q"); kind != api.PathImport || source != deep("l", "x", 10)+"/p/q" || e != api.OK {
			t.Errorf("Locate for %s has a limit: %d, %q, %d", name, kind, source, e)
		}
	}
}

// memory keeps lists, with their spare capacity.
type memory struct {
	names [][]string
	holes [][]api.Pattern
	paths [][]api.StreamPath
}

// pattern copies a pattern with spare capacity behind its parts.
func (k *memory) pattern(p api.Pattern) api.Pattern {
	whole := append(slices.Clone(p.Parts), "spare", "spare", "spare")
	k.names = append(k.names, whole)
	return api.Pattern{Parts: whole[:len(p.Parts)], Rest: p.Rest}
}

// streams copies streams, so that they have a lot of spare capacity.
func (k *memory) streams(l []api.Stream) []api.Stream {
	var list []api.Stream
	for _, x := range l {
		var whole []api.StreamPath
		for _, line := range append(slices.Clone(x.Paths), pathLine("share //spare/a"), pathLine("share //spare/b")) {
			whole = append(whole, api.StreamPath{Kind: line.Kind, Path: k.pattern(line.Path), From: k.pattern(line.From)})
		}
		k.paths = append(k.paths, whole)
		list = append(list, api.Stream{Name: x.Name, Parent: x.Parent, Paths: whole[:len(x.Paths)]})
	}
	return append(list, api.Stream{Name: "spare"})[:len(l)]
}

// keep notes the lists of entries.
func (k *memory) keep(m []api.Entry) {
	for _, x := range m {
		k.names, k.holes = append(k.names, x.Left.Parts, x.Right.Parts), append(k.holes, x.Holes)
		for _, h := range x.Holes {
			k.names = append(k.names, h.Parts)
		}
	}
}

// state is all that the lists hold.
func (k *memory) state() string {
	s := ""
	for _, list := range k.names {
		s += strings.Join(list, " ") + "; "
	}
	for _, list := range k.paths {
		s += streamsText([]api.Stream{{Paths: list}}) + "; "
	}
	return s
}

func holesText(list []api.Pattern) string {
	return text([]api.Entry{{Holes: list}})
}

func namesText(list []string) string {
	return strings.Join(list, " ")
}

// spoil overwrites lists and their spare capacity one by one, and reports whether those behind stay as they are.
func spoil[T any](lists [][]T, bad T, text func([]T) string) bool {
	apart := true
	for i, list := range lists {
		var before []string
		for _, other := range lists[i+1:] {
			before = append(before, text(other))
		}
		for k := range list[:cap(list)] {
			list[:cap(list)][k] = bad
		}
		for k, other := range lists[i+1:] {
			apart = apart && text(other) == before[k]
		}
	}
	return apart
}

// R4: arguments stay as they are, and results share no memory with them nor with each other.
func TestMemory(t *testing.T) {
	d := dice(3)
	families := [][]api.Stream{example(), tower("//view/...", numbered("//view/#", 0, 11), numbered("//view/#/a", 0, 9), nil)}
	for range 30 {
		families = append(families, d.family())
	}
	for _, family := range families {
		arguments, results := &memory{}, &memory{}
		l := arguments.streams(family)
		before := arguments.state()
		Check(l)
		for _, x := range l {
			Locate(l, x.Name, "//view/a/b")
			names, _ := Ancestors(l, x.Name)
			results.names = append(results.names, names)
			for range 2 {
				m, _ := View(l, x.Name)
				results.keep(m)
				m, _ = Between(l, x.Name)
				results.keep(m)
			}
		}
		if !spoil(results.holes, parted("//spoilt"), holesText) || !spoil(results.names, "spoilt", namesText) {
			t.Errorf("%s: results share memory", streamsText(family))
		}
		if arguments.state() != before || streamsText(l) != streamsText(family) || l[:len(l)+1][len(l)].Name != "spare" {
			t.Errorf("%s: the arguments are now %s", streamsText(family), streamsText(l))
		}
	}
}
