package view

import (
	"regexp"
	"slices"
	"strings"
	"testing"

	"stockyard/api"
	"stockyard/pattern"
	"stockyard/rule"
)

const componentForm = `[A-Za-z0-9_+-][A-Za-z0-9_.+-]*`

// parted is the pattern of a text that need not be one of a pattern.
func parted(s string) api.Pattern {
	s, rest := strings.CutSuffix(s, "/...")
	return api.Pattern{Parts: strings.Split(strings.TrimPrefix(s, "//"), "/"), Rest: rest}
}

func patternText(p api.Pattern) string {
	s := "//" + strings.Join(p.Parts, "/")
	if p.Rest {
		s += "/..."
	}
	return s
}

// line reads a line from the texts of its sides with " > " between them, and "!" ahead for Exclude.
func line(s string) api.Rule {
	s, exclude := strings.CutPrefix(s, "!")
	left, right, _ := strings.Cut(s, " > ")
	return api.Rule{Exclude: exclude, Left: parted(left), Right: parted(right)}
}

// lines reads a view from the texts of its lines with "; " between them.
func lines(s string) []api.Rule {
	var v []api.Rule
	for _, text := range strings.Split(s, "; ") {
		if text != "" {
			v = append(v, line(text))
		}
	}
	return v
}

func lineText(r api.Rule) string {
	s := patternText(r.Left) + " > " + patternText(r.Right)
	if r.Exclude {
		s = "!" + s
	}
	return s
}

// text is what lines reads.
func text(v []api.Rule) string {
	var list []string
	for _, r := range v {
		list = append(list, lineText(r))
	}
	return strings.Join(list, "; ")
}

func holesText(list []api.Pattern) string {
	s := ""
	for _, h := range list {
		s += " " + patternText(h)
	}
	return s
}

// entriesText joins the texts of entries, "LEFT > RIGHT - HOLE HOLE ..", by "; ".
func entriesText(m []api.Entry) string {
	var list []string
	for _, x := range m {
		s := patternText(x.Left) + " > " + patternText(x.Right)
		if len(x.Holes) > 0 {
			s += " -" + holesText(x.Holes)
		}
		list = append(list, s)
	}
	return strings.Join(list, "; ")
}

// turned exchanges the sides of lines without the functions of the package.
func turned(v []api.Rule) []api.Rule {
	var list []api.Rule
	for _, r := range v {
		list = append(list, api.Rule{Exclude: r.Exclude, Left: r.Right, Right: r.Left})
	}
	return list
}

// repeated returns the text of count parts, behind the given one.
func repeated(first, part string, count int) string {
	return "//" + first + strings.Repeat("/"+part, count)
}

// model says by regular expressions which paths match patterns, and remembers it.
type model struct {
	forms map[string]*regexp.Regexp
	known map[[2]string][]string
}

func newModel() *model {
	return &model{forms: map[string]*regexp.Regexp{}, known: map[[2]string][]string{}}
}

// captures are those of a path that matches a pattern, behind the path; there are none if it does not match.
func (m *model) captures(p api.Pattern, file string) []string {
	key := patternText(p)
	found, ok := m.known[[2]string{key, file}]
	if ok {
		return found
	}
	form := m.forms[key]
	if form == nil {
		form = formOf(p)
		m.forms[key] = form
	}
	found = form.FindStringSubmatch(file)
	m.known[[2]string{key, file}] = found
	return found
}

func formOf(p api.Pattern) *regexp.Regexp {
	form := `\A/`
	for _, part := range p.Parts {
		if suffix, found := strings.CutPrefix(part, "*"); found {
			form += `/(` + componentForm + `)` + regexp.QuoteMeta(suffix)
		} else {
			form += `/` + regexp.QuoteMeta(part)
		}
	}
	if p.Rest {
		form += `/(` + componentForm + `(?:/` + componentForm + `)*)`
	}
	return regexp.MustCompile(form + `\z`)
}

func (m *model) matches(p api.Pattern, file string) bool {
	return m.captures(p, file) != nil
}

// related is the path to which a line with these sides relates a left path, and empty if there is none.
func (m *model) related(left, right api.Pattern, file string) string {
	found := m.captures(left, file)
	if found == nil {
		return ""
	}
	found = found[1:]
	s := "/"
	for _, part := range right.Parts {
		if suffix, starred := strings.CutPrefix(part, "*"); starred {
			part, found = found[0]+suffix, found[1:]
		}
		s += "/" + part
	}
	return strings.Join(append([]string{s}, found...), "/")
}

// allRelated lists the right paths to which a view relates a left path, as the chapter says it, line by line.
func (m *model) allRelated(v []api.Rule, file string) []string {
	var list []string
	for i, r := range v {
		right := m.related(r.Left, r.Right, file)
		if r.Exclude || right == "" {
			continue
		}
		stronger := func(s api.Rule) bool { return m.matches(s.Left, file) || m.matches(s.Right, right) }
		if !slices.ContainsFunc(v[i+1:], stronger) {
			list = append(list, right)
		}
	}
	return list
}

// deciding is the index of the last line whose left side a path matches, and -1 if there is none.
func (m *model) deciding(v []api.Rule, file string) int {
	found := -1
	for i, r := range v {
		if m.matches(r.Left, file) {
			found = i
		}
	}
	return found
}

// allMapped lists the right paths to which the entries relate a left path.
func (m *model) allMapped(l []api.Entry, file string) []string {
	var list []string
	for _, x := range l {
		right := m.related(x.Left, x.Right, file)
		if right != "" && !slices.ContainsFunc(x.Holes, func(h api.Pattern) bool { return m.matches(h, file) }) {
			list = append(list, right)
		}
	}
	return list
}

// only is the single element of a list, and empty if it has none; it is no path if there are several.
func only(list []string) string {
	return strings.Join(list, " and ")
}

// someFiles lists paths below //r of up to four components that tell what becomes of someLines apart, and others.
func someFiles() []string {
	list := []string{"", "//r", "//r/", "//r/.a", "//r/*", "//s/a", "/r/a", "//r/a//b", "//r/..."}
	row := []string{"//r"}
	for _, names := range [][]string{{"a", "b", "aa", "ba", "baa", "c"}, {"a", "b", "aa", "ca"}, {"a", "b"}, {"a"}} {
		var next []string
		for _, dir := range row {
			for _, name := range names {
				next = append(next, dir+"/"+name)
			}
		}
		list = append(list, next...)
		row = next
	}
	return list
}

// someLines lists the lines whose sides are below //r and end as the texts say, with Exclude and without.
func someLines(ends ...string) []api.Rule {
	var list []api.Rule
	for _, left := range ends {
		for _, right := range ends {
			if strings.Count(left, "*") == strings.Count(right, "*") && strings.HasSuffix(left, "...") == strings.HasSuffix(right, "...") {
				list = append(list, line("//r/"+left+" > //r/"+right), line("!//r/"+left+" > //r/"+right))
			}
		}
	}
	return list
}

// someViews lists the views of up to most of some lines.
func someViews(list []api.Rule, most int) [][]api.Rule {
	views := [][]api.Rule{nil}
	for begin := 0; most > 0; most-- {
		row := views[begin:]
		begin = len(views)
		for _, v := range row {
			for _, r := range list {
				views = append(views, append(slices.Clone(v), r))
			}
		}
	}
	return views
}

// allViews lists the views for the comparisons with the model.
func allViews() [][]api.Rule {
	views := someViews(someLines("...", "a/...", "*", "*a", "a", "ba", "b/*", "*/a", "*/*", "*/...", "a/b"), 2)
	return append(views, someViews(someLines("...", "a/...", "*", "*a", "b"), 3)...)
}

// noViews lists what is no view, with what Check says of it.
func noViews() []struct {
	v  []api.Rule
	at int
	e  api.Errno
} {
	type row = struct {
		v  []api.Rule
		at int
		e  api.Errno
	}
	good := line("//d/... > //c/...")
	full := slices.Repeat([]api.Rule{good}, api.MaxRules)
	list := []row{
		{append(slices.Clone(full), good), 0, api.ErrViewLimit},
		{slices.Repeat(full, 20), 0, api.ErrViewLimit},
		{slices.Repeat(lines("!//d/a > //c/a"), api.MaxRules+1), 0, api.ErrViewLimit},
	}
	for _, s := range []string{
		"//d/... > //c/*", "//d/* > //c/d", "//d/*/* > //c/*", "//d > //c/d", "//d/e > //c", "//*/... > //c/...", "//d/a* > //c/*", "//d/... > //c/.x/...",
		"// > //", "//d/e > //", "//d//... > //c/...", "//d/e > " + repeated("c", "d", 12), repeated("d", "*", 12) + " > " + repeated("c", "*", 11),
	} {
		for _, exclude := range []string{"", "!"} {
			bad := line(exclude + s)
			list = append(list,
				row{[]api.Rule{bad}, 0, api.ErrViewRule},
				row{[]api.Rule{bad, good}, 0, api.ErrViewRule},
				row{[]api.Rule{good, bad, good, bad, {}}, 1, api.ErrViewRule},
				row{append(slices.Clone(full[1:]), bad), api.MaxRules - 1, api.ErrViewRule},
				row{append(slices.Clone(full), bad), api.MaxRules, api.ErrViewRule},
				row{append(slices.Repeat(full, 3), bad, bad), 3 * api.MaxRules, api.ErrViewRule})
		}
	}
	return append(list, row{[]api.Rule{{}}, 0, api.ErrViewRule}, row{[]api.Rule{good, {Exclude: true}}, 1, api.ErrViewRule})
}

// P6.1: the first element that is no line, before the limit; and views.
func TestCheck(t *testing.T) {
	for _, c := range noViews() {
		if at, e := Check(c.v); at != c.at || e != c.e {
			t.Errorf("Check(%.200s) is %d, %d, not %d, %d", text(c.v), at, e, c.at, c.e)
		}
	}
	for _, v := range [][]api.Rule{
		nil, {}, lines("//d/... > //c/..."), lines("!//d/... > //c/..."), lines("//d/a > //c/a; //d/a > //c/a; !//d/a > //c/a"),
		slices.Repeat(lines("//d/*.a/... > //c/x/*/..."), api.MaxRules), slices.Repeat(lines("!//d/e > //c/d"), api.MaxRules),
		lines(repeated("d", "*", 11) + "/... > " + repeated("c", "*.x", 11) + "/..."),
	} {
		if at, e := Check(v); at != 0 || e != api.OK {
			t.Errorf("Check(%.200s) is %d, %d", text(v), at, e)
		}
	}
}

// P6.2: what is no view relates nothing, no line of it decides, and it has no entries (P6.3).
func TestNoViews(t *testing.T) {
	for _, c := range noViews() {
		files := []string{"//d/a", "//d/e", "//c/a", "//c/d", "", repeated("d", "x", 12), repeated("c", "d", 12)}
		for _, r := range c.v[max(0, len(c.v)-2):] {
			files = append(files, patternText(r.Left), patternText(r.Right))
		}
		for _, file := range files {
			if s, ok := Forward(c.v, file); s != "" || ok {
				t.Errorf("Forward(%.200s, %s) is %q, %v", text(c.v), file, s, ok)
			}
			if s, ok := Backward(c.v, file); s != "" || ok {
				t.Errorf("Backward(%.200s, %s) is %q, %v", text(c.v), file, s, ok)
			}
			if i := Decides(c.v, file); i != -1 {
				t.Errorf("Decides(%.200s, %s) is %d", text(c.v), file, i)
			}
		}
		if m, e := Entries(c.v); len(m) > 0 || e != c.e {
			t.Errorf("Entries(%.200s) is %s, %d, not %d", text(c.v), entriesText(m), e, c.e)
		}
	}
}

// P6.2: the sides of lines, and of what is no line, are exchanged.
func TestTurn(t *testing.T) {
	views := someViews(someLines("...", "a/...", "*", "b/*", "a"), 2)
	for _, c := range noViews() {
		views = append(views, c.v)
	}
	for _, v := range views {
		if got, want := text(Turn(v)), text(turned(v)); got != want {
			t.Errorf("Turn(%.200s) is %.200s", text(v), got)
		}
	}
	if v := Turn(nil); len(v) != 0 {
		t.Errorf("Turn of no lines is %s", text(v))
	}
}

// P6.2: all of some views with all of some paths, by the words of the chapter.
func TestForwardBackwardDecidesSome(t *testing.T) {
	m, files := newModel(), someFiles()
	for _, v := range allViews() {
		back := turned(v)
		for _, file := range files {
			want := only(m.allRelated(v, file))
			if s, ok := Forward(v, file); s != want || ok != (want != "") {
				t.Errorf("Forward(%s, %s) is %q, %v, not %q", text(v), file, s, ok, want)
			}
			want = only(m.allRelated(back, file))
			if s, ok := Backward(v, file); s != want || ok != (want != "") {
				t.Errorf("Backward(%s, %s) is %q, %v, not %q", text(v), file, s, ok, want)
			}
			if i, want := Decides(v, file), m.deciding(v, file); i != want {
				t.Errorf("Decides(%s, %s) is %d, not %d", text(v), file, i, want)
			}
		}
	}
}

const exampleView = "//d/... > //c/...; !//d/*.tmp > //c/*.tmp; //d/x/a > //c/y"

// P6.2: pairs that the views relate, and what is related to nothing.
func TestForwardAndBackward(t *testing.T) {
	deep := strings.Repeat("/b", 5000)
	for _, c := range []struct{ v, left, right string }{
		{exampleView, "//d/a", "//c/a"},
		{exampleView, "//d/b.tmp", ""},
		{exampleView, "", "//c/b.tmp"},
		{exampleView, "//d/x/a", "//c/y"},
		{exampleView, "//d/y", ""},
		{exampleView, "", "//c/x/a"},
		{exampleView, "//d/x/b.tmp", "//c/x/b.tmp"},
		{exampleView, "//d/y/z", "//c/y/z"},
		{exampleView, "//d" + deep, "//c" + deep},
		{exampleView, "//d/.x", ""},
		{exampleView, "//d/...", ""},
		{exampleView, "//e/a", ""},
		{exampleView, "", "//d/a"},
		{"", "//d/a", ""},
		{"", "", "//d/a"},
		// Later lines are stronger on the left, though they have another right side.
		{"//d/... > //c/...; //d/x/... > //e/...", "//d/x/y", "//e/y"},
		{"//d/... > //c/...; //d/x/... > //e/...", "//d/x", "//c/x"},
		{"//d/... > //c/...; //d/x/... > //e/...", "", "//c/x/y"},
		{"//d/x/... > //e/...; //d/... > //c/...", "//d/x/y", "//c/x/y"},
		{"//d/x/... > //e/...; //d/... > //c/...", "", "//e/y"},
		// Later lines are stronger on the right, though they have another left side.
		{"//d/... > //c/...; //e/... > //c/x/...", "//e/y", "//c/x/y"},
		{"//d/... > //c/...; //e/... > //c/x/...", "//d/x/y", ""},
		{"//d/... > //c/...; //e/... > //c/x/...", "//d/x", "//c/x"},
		{"//e/... > //c/x/...; //d/... > //c/...", "//e/y", ""},
		{"//e/... > //c/x/...; //d/... > //c/...", "//d/x/y", "//c/x/y"},
		// A pair that a later line takes away stays away, even if a still later one takes away that line's pair.
		{"//d/... > //c/...; //d/x > //c/y; //d/z > //c/y", "//d/z", "//c/y"},
		{"//d/... > //c/...; //d/x > //c/y; //d/z > //c/y", "//d/x", ""},
		{"//d/... > //c/...; //d/x > //c/y; //d/z > //c/y", "", "//c/x"},
		{"//d/... > //c/...; //d/x > //c/y; //d/z > //c/y", "", "//c/z"},
		{"//d/... > //c/...; //d/x > //c/y; //d/z > //c/y", "//d/y", ""},
		// An exclusion takes pairs away by one side alone, and what stands behind it comes back.
		{"//d/... > //c/...; !//d/* > //e/*", "//d/a", ""},
		{"//d/... > //c/...; !//e/* > //c/*", "//d/a", ""},
		{"//d/... > //c/...; !//e/* > //c/*", "", "//c/a"},
		{"//d/... > //c/...; !//e/* > //c/*", "//d/a/b", "//c/a/b"},
		{"//d/... > //c/...; !//d/a > //e/a; //d/* > //f/*", "//d/a", "//f/a"},
		{"//d/... > //c/...; !//d/a > //e/a; !//d/b > //e/b; //d/a > //c/a", "//d/a", "//c/a"},
		{"!//d/a > //c/a; //d/... > //c/...", "//d/a", "//c/a"},
		{"!//d/... > //c/...", "//d/a", ""},
		{"!//d/... > //c/...", "", "//c/a"},
		{strings.Repeat("//d/* > //e/*; ", api.MaxRules-1) + "//d/*.a > //c/x/*", "//d/y.a", "//c/x/y"},
		{strings.Repeat("//d/* > //e/*; ", api.MaxRules-1) + "//d/*.a > //c/x/*", "//d/y", "//e/y"},
	} {
		v := lines(c.v)
		if s, ok := Forward(v, c.left); s != c.right && c.left != "" || ok != (c.left != "" && c.right != "") {
			t.Errorf("Forward(%s, %.60q) is %.60q, %v", c.v, c.left, s, ok)
		}
		if s, ok := Backward(v, c.right); s != c.left && c.right != "" || ok != (c.left != "" && c.right != "") {
			t.Errorf("Backward(%s, %.60q) is %.60q, %v", c.v, c.right, s, ok)
		}
	}
}

// P6.2: the deciding line, with Exclude or without, whatever becomes of the path.
func TestDecides(t *testing.T) {
	for _, c := range []struct {
		v, file string
		want    int
	}{
		{exampleView, "//d/x/a", 2},
		{exampleView, "//d/x/b", 0},
		{exampleView, "//d/b.tmp", 1},
		{exampleView, "//d/y", 0},
		{exampleView, "//e/a", -1},
		{exampleView, "//c/y", -1},
		{exampleView, "//d", -1},
		{exampleView, "//d/x/", -1},
		{exampleView, "", -1},
		{"", "//d/a", -1},
		{"!//d/... > //c/...", "//d/a", 0},
		{"//d/... > //c/...; !//e/... > //c/...", "//d/a", 0},
		{"//d/... > //c/...; //d/... > //c/...", "//d/a", 1},
		{"//d/a > //c/...; //d/... > //c/...", "//d/b", -1},
		{strings.Repeat("//d/* > //e/*; ", api.MaxRules-1) + "//d/a > //e/b", "//d/a", api.MaxRules - 1},
		{strings.Repeat("//d/* > //e/*; ", api.MaxRules-1) + "//d/a > //e/b", "//d/b", api.MaxRules - 2},
	} {
		if i := Decides(lines(c.v), c.file); i != c.want {
			t.Errorf("Decides(%s, %s) is %d, not %d", c.v, c.file, i, c.want)
		}
	}
}

// taken lists the patterns of P6.3 of which the holes of the entry of line i are made.
func taken(v []api.Rule, i int) []api.Pattern {
	var list []api.Pattern
	for _, s := range v[i+1:] {
		list = append(list, s.Left)
		if narrow, ok, _ := rule.NarrowRight(v[i], s.Right); ok {
			list = append(list, narrow.Left)
		}
	}
	return list
}

// areHoles reports whether the holes are the simplified ones of some patterns: none but what the patterns leave of the
// base, nothing left out, none within another one, and sorted.
func areHoles(holes []api.Pattern, base api.Pattern, list []api.Pattern) bool {
	for i, h := range holes {
		if i > 0 && patternText(holes[i-1]) >= patternText(h) {
			return false
		}
		if slices.ContainsFunc(holes, func(p api.Pattern) bool { return patternText(p) != patternText(h) && pattern.Within(h, p) }) {
			return false
		}
		if !slices.ContainsFunc(list, func(p api.Pattern) bool { return isMeet(h, base, p) }) {
			return false
		}
	}
	for _, p := range list {
		both, ok := pattern.Meet(base, p)
		if ok && !slices.ContainsFunc(holes, func(h api.Pattern) bool { return pattern.Within(both, h) }) {
			return false
		}
	}
	return true
}

func isMeet(h, p, q api.Pattern) bool {
	both, ok := pattern.Meet(p, q)
	return ok && patternText(both) == patternText(h)
}

// areEntries reports whether there is one entry for each line without Exclude, in order, but for those which relate
// none of the paths; of these there is none.
func areEntries(m *model, l []api.Entry, v []api.Rule, files []string) bool {
	for i, r := range v {
		relates := func(file string) bool { return only(m.allRelated(v, file)) != "" && m.deciding(v, file) == i }
		if r.Exclude || !slices.ContainsFunc(files, relates) {
			continue
		}
		if len(l) == 0 || patternText(l[0].Left) != patternText(r.Left) || patternText(l[0].Right) != patternText(r.Right) || !areHoles(l[0].Holes, r.Left, taken(v, i)) {
			return false
		}
		l = l[1:]
	}
	return len(l) == 0
}

// P6.3 and P6.4: the entries of all of some views, by the paths that they relate.
func TestEntriesSome(t *testing.T) {
	m, files := newModel(), someFiles()
	for _, v := range allViews() {
		l, e := Entries(v)
		if e != api.OK || !areEntries(m, l, v, files) {
			t.Errorf("Entries(%s) is %s, %d", text(v), entriesText(l), e)
		}
		for _, file := range files {
			want, got := m.allRelated(v, file), m.allMapped(l, file)
			if len(got) > 1 || !slices.Equal(got, want) {
				t.Errorf("Entries(%s) is %s: it relates %s to %q, not to %q", text(v), entriesText(l), file, got, want)
			}
		}
	}
}

// numbered lists count texts, each of which has a number of two digits, from first on, in the place of "#".
func numbered(form string, first, count int) []string {
	var list []string
	for i := range count {
		number := string([]byte{byte('0' + (first+i)/10), byte('0' + (first+i)%10)})
		list = append(list, strings.ReplaceAll(form, "#", number))
	}
	return list
}

// P6.3: the entries of views, written out.
func TestEntries(t *testing.T) {
	for _, c := range []struct{ v, want string }{
		{"", ""},
		{exampleView, "//d/... > //c/... - //d/*.tmp //d/x/a //d/y; //d/x/a > //c/y"},
		{"//d/... > //c/...", "//d/... > //c/..."},
		{"!//d/... > //c/...", ""},
		// Entries are in the order of their lines, and only the lines behind a line leave holes in it.
		{"//d/a/... > //c/x/...; //d/b/... > //c/y/...; //d/... > //e/...", "//d/... > //e/..."},
		{"//d/... > //e/...; //d/b/... > //c/y/...; //d/a/... > //c/x/...", "//d/... > //e/... - //d/a/... //d/b/...; //d/b/... > //c/y/...; //d/a/... > //c/x/..."},
		{"!//d/a > //c/a; //d/* > //c/*; !//d/b > //c/b", "//d/* > //c/* - //d/b"},
		// The right sides of later lines, those of exclusions too, come in by the left paths.
		{"//d/* > //c/*; //e/* > //c/*", "//e/* > //c/*"},
		{"//d/*.a/... > //c/*/...; //e/* > //c/x/*.b", "//d/*.a/... > //c/*/... - //d/x.a/*.b; //e/* > //c/x/*.b"},
		{"//d/*.a/... > //c/*/...; !//e/* > //c/x/*.b", "//d/*.a/... > //c/*/... - //d/x.a/*.b"},
		{"//d/*.a/... > //c/*/...; !//e/* > //f/x/*.b", "//d/*.a/... > //c/*/..."},
		{"//d/* > //c/*.b; //e/*/* > //c/*.b/*; //f/* > //c/*c.b", "//d/* > //c/*.b - //d/*c; //e/*/* > //c/*.b/*; //f/* > //c/*c.b"},
		{"//d/... > //c/...; //d/x > //c/y; //d/z > //c/y", "//d/... > //c/... - //d/x //d/y //d/z; //d/z > //c/y"},
		// Holes are what is left of them in Left, without those within another one, sorted by their texts.
		{"//d/*.a/* > //c/*/*; !//d/x.a/... > //e/...; !//d/*/z > //e/*/z", "//d/*.a/* > //c/*/* - //d/*.a/z //d/x.a/*"},
		{"//d/*/* > //c/*/*; !//d/x/y > //e/y; !//d/x/* > //e/*; !//d/*/y > //e/*/y", "//d/*/* > //c/*/* - //d/*/y //d/x/*"},
		{"//d/... > //c/...; !//d/b/c > //e/e; !//d/b-/c > //e/e; !//d/b+/c > //e/e; !//d/B > //c/b; !//e/* > //c/*.x", "//d/... > //c/... - //d/*.x //d/B //d/b //d/b+/c //d/b-/c //d/b/c"},
		// Entries without paths are left out, also if no single hole takes all.
		{"//d/* > //c/*; !//d/... > //e/...", ""},
		{"//d/... > //c/...; !//d/* > //x/*; !//d/*/... > //y/*/...", ""},
		{"//d/... > //c/...; !//d/* > //x/*; !//y/*/... > //c/*/...", ""},
		{"//d/... > //c/...; !//d/* > //x/*; !//y/*/*/... > //c/*/*/...", "//d/... > //c/... - //d/* //d/*/*/..."},
		{"//d/a > //c/a; //d/a > //c/b; //d/b > //c/b", "//d/b > //c/b"},
		{"//d/a > //c/a; //d/a > //c/a", "//d/a > //c/a"},
	} {
		if m, e := Entries(lines(c.v)); entriesText(m) != c.want || e != api.OK {
			t.Errorf("Entries(%s) is %s, %d", c.v, entriesText(m), e)
		}
	}
}

// P6.3: the greatest number of lines, each of which leaves two holes.
func TestEntriesOfFullViews(t *testing.T) {
	later := numbered("!//d/l# > //c/r#", 0, api.MaxRules-1)
	want := "//d/... > //c/... - " + strings.Join(append(numbered("//d/l#", 0, api.MaxRules-1), numbered("//d/r#", 0, api.MaxRules-1)...), " ")
	if m, e := Entries(lines("//d/... > //c/...; " + strings.Join(later, "; "))); entriesText(m) != want || e != api.OK {
		t.Errorf("the holes of 15 lines: %s, %d", entriesText(m), e)
	}
	apart := strings.Join(numbered("//d/#/... > //c/#/...", 0, api.MaxRules), "; ")
	if m, e := Entries(lines(apart)); entriesText(m) != apart || e != api.OK {
		t.Errorf("sixteen entries: %s, %d", entriesText(m), e)
	}
}

// P6.3: sides that a later line makes too long, where there is no other way to it and where there is.
func TestEntriesLimit(t *testing.T) {
	long := repeated("d", "x", 10) + "/... > //c/..."
	for _, c := range []struct {
		v, want string
		e       api.Errno
	}{
		{long + "; !//e/a/b > //c/a/b", "", api.ErrViewLimit},
		{long + "; //e/a/b > //c/a/b", "", api.ErrViewLimit},
		{long + "; //e/*/*/... > //c/*/*/...", "", api.ErrViewLimit},
		{long + "; //e/* > //c/*", long + " - " + repeated("d", "x", 10) + "/*; //e/* > //c/*", api.OK},
		{long + "; !//e/*/... > //c/*/...", long + " - " + repeated("d", "x", 10) + "/*/...", api.OK},
		// The right sides do not meet, or only the line ahead is long.
		{long + "; //e/a/b > //f/a/b", long + "; //e/a/b > //f/a/b", api.OK},
		{"//e/a/b > //c/a/b; " + long, long, api.OK},
		{"//c/... > //d/...; " + long, "//c/... > //d/...; " + long, api.OK},
		{"//c/... > " + repeated("d", "x", 10) + "/...; //c/a/b > //d/e", "//c/... > " + repeated("d", "x", 10) + "/... - //c/a/b; //c/a/b > //d/e", api.OK},
		// An exclusion has no entry.
		{"!" + long + "; //e/a/b > //c/a/b", "//e/a/b > //c/a/b", api.OK},
		{"!" + long + "; !//e/a/b > //c/a/b", "", api.OK},
		// The limit is that of an entry that is left out as well, and of the last pair of lines.
		{long + "; !//d/... > //f/...; //e/a/b > //c/a/b", "", api.ErrViewLimit},
		{long + "; //e/a/b > //c/a/b; !//d/... > //f/...", "", api.ErrViewLimit},
		{"//a/b > //a/b; //a/c > //a/c; " + long + "; //a/d > //a/d; //e/a/b > //c/a/b", "", api.ErrViewLimit},
		{"//d/* > //c/d; //d/e > //c/e; " + long + "; //e/a/b > //c/a/b", "", api.ErrViewRule},
		{long + "; //e/a/b > //c/a/b; //d/* > //c/d", "", api.ErrViewRule},
	} {
		if m, e := Entries(lines(c.v)); entriesText(m) != c.want || e != c.e {
			t.Errorf("Entries(%s) is %s, %d", c.v, entriesText(m), e)
		}
	}
}

// roomy copies a view with spare capacity behind each of its lists, which it also returns as a whole.
func roomy(v []api.Rule) ([]api.Rule, [][]string, []api.Rule) {
	var memory [][]string
	spare := func(p api.Pattern) api.Pattern {
		whole := append(slices.Clone(p.Parts), "spare", "spare", "spare")
		memory = append(memory, whole)
		return api.Pattern{Parts: whole[:len(p.Parts)], Rest: p.Rest}
	}
	var list []api.Rule
	for _, r := range v {
		list = append(list, api.Rule{Exclude: r.Exclude, Left: spare(r.Left), Right: spare(r.Right)})
	}
	list = append(list, line("//spare/a > //spare/b"), line("//spare/c > //spare/d"))
	return list[:len(v)], memory, list
}

// spoil overwrites lists of parts and their spare capacity, and reports whether the others stay as they are meanwhile.
func spoil(lists [][]string) bool {
	apart := true
	for i, parts := range lists {
		var before []string
		for _, other := range lists[i+1:] {
			before = append(before, strings.Join(other, "/"))
		}
		for k := range parts[:cap(parts)] {
			parts[:cap(parts)][k] = "spoilt"
		}
		for k, other := range lists[i+1:] {
			apart = apart && strings.Join(other, "/") == before[k]
		}
	}
	return apart
}

// R4: arguments stay as they are, and results share no memory with them nor with each other.
func TestMemory(t *testing.T) {
	for _, s := range []string{
		exampleView, "//d/... > //c/...", "//d/*.a/... > //c/*/...; //d/e > //c/d; //d/*.a/... > //c/*/...", "//d/x > //d/x; !//e/x > //e/x", "//d/* > //c/*; //d/* > //c/*; //d/a > //c/b",
	} {
		v, memory, whole := roomy(lines(s))
		before := text(whole)
		var parts []string
		for _, list := range memory {
			parts = append(parts, strings.Join(list, " "))
		}
		var results [][]string
		for _, r := range Turn(v) {
			results = append(results, r.Left.Parts, r.Right.Parts)
		}
		m, _ := Entries(v)
		for _, x := range m {
			results = append(results, x.Left.Parts, x.Right.Parts)
			for _, h := range x.Holes {
				results = append(results, h.Parts)
			}
		}
		Check(v)
		Decides(v, "//d/x")
		Forward(v, "//d/x")
		Backward(v, "//c/x")
		if !spoil(results) {
			t.Errorf("%s: results share memory", s)
		}
		for i, list := range memory {
			if strings.Join(list, " ") != parts[i] {
				t.Errorf("%s: an argument is now %q", s, list)
			}
		}
		if text(whole) != before {
			t.Errorf("%s: the list is now %s", s, text(whole))
		}
	}
}
