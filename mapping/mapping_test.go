package mapping

import (
	"regexp"
	"slices"
	"strings"
	"testing"

	"stockyard/api"
	"stockyard/pattern"
	"stockyard/region"
	"stockyard/rule"
)

const componentForm = `[A-Za-z0-9_+-][A-Za-z0-9_.+-]*`

// parted is the pattern of a text that need not be one of a pattern.
func parted(s string) api.Pattern {
	s, rest := strings.CutSuffix(s, "/...")
	return api.Pattern{Parts: strings.Split(strings.TrimPrefix(s, "//"), "/"), Rest: rest}
}

func patternText(p api.Pattern) string {
	s := "//" + strings.Join(p.Parts, "/")
	if p.Rest {
		s += "/..."
	}
	return s
}

// regionOf reads a region from the text of its base and, behind " - ", those of its holes with spaces between them.
func regionOf(s string) api.Region {
	base, holes, _ := strings.Cut(s, " - ")
	g := api.Region{Base: parted(base)}
	for _, h := range strings.Fields(holes) {
		g.Holes = append(g.Holes, parted(h))
	}
	return g
}

// regionText is what regionOf reads.
func regionText(g api.Region) string {
	s := patternText(g.Base)
	for i, h := range g.Holes {
		if i == 0 {
			s += " -"
		}
		s += " " + patternText(h)
	}
	return s
}

// regionsText joins the texts of regions by "; ".
func regionsText(l []api.Region) string {
	var texts []string
	for _, g := range l {
		texts = append(texts, regionText(g))
	}
	return strings.Join(texts, "; ")
}

// mappingOf reads a mapping from the texts of its entries, "LEFT > RIGHT - HOLE HOLE ..", with "; " between them.
func mappingOf(s string) []api.Entry {
	var m []api.Entry
	for _, text := range strings.Split(s, "; ") {
		if text != "" {
			left, behind, _ := strings.Cut(text, " > ")
			g := regionOf(behind)
			m = append(m, api.Entry{Left: parted(left), Right: g.Base, Holes: g.Holes})
		}
	}
	return m
}

// text is what mappingOf reads.
func text(m []api.Entry) string {
	var list []string
	for _, x := range m {
		list = append(list, patternText(x.Left)+" > "+regionText(api.Region{Base: x.Right, Holes: x.Holes}))
	}
	return strings.Join(list, "; ")
}

// deep is the text of the part first and, behind it, count times part.
func deep(first, part string, count int) string {
	return "//" + first + strings.Repeat("/"+part, count)
}

// numbered lists count texts, each of which has a number of two digits, from first on, in the place of "#".
func numbered(form string, first, count int) []string {
	var list []string
	for i := range count {
		number := string([]byte{byte('0' + (first+i)/10), byte('0' + (first+i)%10)})
		list = append(list, strings.ReplaceAll(form, "#", number))
	}
	return list
}

// holes is numbered with spaces between the texts, from 0 on.
func holes(form string, count int) string {
	return strings.Join(numbered(form, 0, count), " ")
}

// listed is numbered with "; " between the texts, from 0 on.
func listed(form string, count int) string {
	return strings.Join(numbered(form, 0, count), "; ")
}

// model says by regular expressions which paths match patterns, and remembers it.
type model struct {
	forms map[string]*regexp.Regexp
	known map[[2]string][]string
}

func newModel() *model {
	return &model{forms: map[string]*regexp.Regexp{}, known: map[[2]string][]string{}}
}

// captures are those of a path that matches a pattern, behind the path; there are none if it does not match.
func (w *model) captures(p api.Pattern, file string) []string {
	key := patternText(p)
	found, ok := w.known[[2]string{key, file}]
	if ok {
		return found
	}
	form := w.forms[key]
	if form == nil {
		form = formOf(p)
		w.forms[key] = form
	}
	found = form.FindStringSubmatch(file)
	w.known[[2]string{key, file}] = found
	return found
}

func formOf(p api.Pattern) *regexp.Regexp {
	form := `\A/`
	for _, part := range p.Parts {
		if suffix, found := strings.CutPrefix(part, "*"); found {
			form += `/(` + componentForm + `)` + regexp.QuoteMeta(suffix)
		} else {
			form += `/` + regexp.QuoteMeta(part)
		}
	}
	if p.Rest {
		form += `/(` + componentForm + `(?:/` + componentForm + `)*)`
	}
	return regexp.MustCompile(form + `\z`)
}

func (w *model) matches(p api.Pattern, file string) bool {
	return w.captures(p, file) != nil
}

func (w *model) has(g api.Region, file string) bool {
	return w.matches(g.Base, file) && !slices.ContainsFunc(g.Holes, func(h api.Pattern) bool { return w.matches(h, file) })
}

// related is the path to which a line with these sides relates a left path, and empty if there is none.
func (w *model) related(left, right api.Pattern, file string) string {
	found := w.captures(left, file)
	if found == nil {
		return ""
	}
	found = found[1:]
	s := "/"
	for _, part := range right.Parts {
		if suffix, starred := strings.CutPrefix(part, "*"); starred {
			part, found = found[0]+suffix, found[1:]
		}
		s += "/" + part
	}
	return strings.Join(append([]string{s}, found...), "/")
}

// forward is the right path to which entries relate a left path: empty if there is none, and no path if there are several.
func (w *model) forward(m []api.Entry, file string) string {
	var list []string
	for _, x := range m {
		if w.has(leftOf(x), file) {
			list = append(list, w.related(x.Left, x.Right, file))
		}
	}
	return strings.Join(list, " and ")
}

// backward is forward from the right to the left.
func (w *model) backward(m []api.Entry, file string) string {
	var list []string
	for _, x := range m {
		if left := w.related(x.Right, x.Left, file); left != "" && w.has(leftOf(x), left) {
			list = append(list, left)
		}
	}
	return strings.Join(list, " and ")
}

// leftOf is the left region of an entry.
func leftOf(x api.Entry) api.Region {
	return api.Region{Base: x.Left, Holes: x.Holes}
}

// lineOf is the line of an entry.
func lineOf(x api.Entry) api.Rule {
	return api.Rule{Left: x.Left, Right: x.Right}
}

// someFiles lists paths below //r of one to three components that tell the mappings of someEntries apart, and other texts.
func someFiles() []string {
	list := []string{"", "//r", "//r/.a", "//r/*", "//s/a", "//r/a//b", "//r/..."}
	row := []string{"//r"}
	for _, names := range [][]string{{"a", "b", "c", "aa", "ba", "ca", "aaa", "baa"}, {"a", "b", "aa", "ba"}, {"a", "b"}} {
		var next []string
		for _, dir := range row {
			for _, name := range names {
				next = append(next, dir+"/"+name)
			}
		}
		list = append(list, next...)
		row = next
	}
	return list
}

// someEntries lists the entries whose sides are below //r and end as the texts say, without up to most of the holes.
func someEntries(ends, without []string, most int) []api.Entry {
	rows := [][]api.Pattern{nil}
	for begin := 0; most > 0; most-- {
		row := rows[begin:]
		begin = len(rows)
		for _, l := range row {
			for _, end := range without {
				rows = append(rows, append(slices.Clone(l), parted("//r/"+end)))
			}
		}
	}
	var list []api.Entry
	for _, left := range ends {
		for _, right := range ends {
			if strings.Count(left, "*") == strings.Count(right, "*") && strings.HasSuffix(left, "...") == strings.HasSuffix(right, "...") {
				for _, l := range rows {
					list = append(list, api.Entry{Left: parted("//r/" + left), Right: parted("//r/" + right), Holes: l})
				}
			}
		}
	}
	return list
}

// oneHole and twoHoles are the entries for the comparisons with the model.
func oneHole() []api.Entry {
	return someEntries([]string{"...", "a/...", "*", "*a", "a", "b", "b/*", "a/b"}, []string{"...", "*", "*a", "a", "*/a", "a/...", "b/*"}, 1)
}

func twoHoles() []api.Entry {
	return someEntries([]string{"...", "*/...", "*/*", "a/*a/..."}, []string{"*", "a/...", "*/...", "*/*a", "*a/b"}, 2)
}

// marks says of each path whether it is a left path of an entry, and then of each whether it is a right path.
func (w *model) marks(x api.Entry, files []string) []bool {
	var list []bool
	for _, file := range files {
		list = append(list, w.has(leftOf(x), file))
	}
	for _, file := range files {
		list = append(list, w.backward([]api.Entry{x}, file) != "")
	}
	return list
}

// apart tells for all pairs of some entries whether they make a mapping, by their indices.
func (w *model) apart(list []api.Entry) func(i, j int) bool {
	var marks [][]bool
	for _, x := range list {
		marks = append(marks, w.marks(x, someFiles()))
	}
	return func(i, j int) bool {
		for k, marked := range marks[i] {
			if marked && marks[j][k] {
				return false
			}
		}
		return true
	}
}

// someMappings lists each step-th mapping of those of none, one and two of some entries.
func (w *model) someMappings(list []api.Entry, step int) [][]api.Entry {
	all, apart := [][]api.Entry{nil}, w.apart(list)
	for i, x := range list {
		all = append(all, []api.Entry{x})
		for j, y := range list {
			if apart(i, j) && len(x.Holes)+len(y.Holes) > 0 {
				all = append(all, []api.Entry{x, y})
			}
		}
	}
	var some [][]api.Entry
	for i := 0; i < len(all); i += step {
		some = append(some, all[i])
	}
	return some
}

// noMapping is what is no mapping, with what Check says of it.
type noMapping struct {
	m  []api.Entry
	at int
	e  api.Errno
}

// noEntries lists mappings with an element that is no entry.
func noEntries() []noMapping {
	good := mappingOf("//d/... > //c/... - //d/*.tmp //e/f")[0]
	full := mappingOf(listed("//d/#/... > //c/#/...", api.MaxEntries))
	full[0].Holes = []api.Pattern{parted("//d/*/a")}
	var list []noMapping
	for _, s := range []string{
		"//d/... > //c/*", "//d/* > //c/d", "//d/*/* > //c/*", "//d > //c/d", "//d/e > //c", "//*/... > //c/...", "//d/a* > //c/*", "//d/... > //c/.x/...",
		"// > //", "//d/e > //", "//d//... > //c/...", "//d/e > " + deep("c", "d", 12), deep("d", "*", 12) + " > " + deep("c", "*", 11),
		"//d/... > //c/... - //d", "//d/... > //c/... - //d/a //", "//d/... > //c/... - //*/...", "//d/... > //c/... - //e/.x", "//d/... > //c/... - //d/a* //d/b",
		"//d/... > //c/... - " + deep("d", "a", 12), "//d/... > //c/... - " + deep("d", "a", 12) + "/...",
		"//d/... > //c/... - " + holes("//d/#", api.MaxHoles+1), "//d/e > //c/e - " + holes("//c/d", api.MaxHoles+1), "//d/e > //c/e - " + holes("//d/e", 20*api.MaxHoles),
	} {
		bad := mappingOf(s)[0]
		list = append(list,
			noMapping{[]api.Entry{bad}, 0, api.ErrMappingEntry},
			noMapping{[]api.Entry{bad, good}, 0, api.ErrMappingEntry},
			noMapping{[]api.Entry{good, good, bad, good, bad, {}}, 2, api.ErrMappingEntry},
			noMapping{append(slices.Clone(full), bad, bad), api.MaxEntries, api.ErrMappingEntry},
			noMapping{append(slices.Clone(full[1:]), bad), api.MaxEntries - 1, api.ErrMappingEntry},
			noMapping{append(mappingOf("//d/... > "+deep("c", "x", 10)+"/... - //d/a/b"), bad), 1, api.ErrMappingEntry})
	}
	return append(list, noMapping{[]api.Entry{{}}, 0, api.ErrMappingEntry}, noMapping{[]api.Entry{good, {Holes: good.Holes}}, 1, api.ErrMappingEntry})
}

// noLimits lists mappings that are beyond a limit.
func noLimits() []noMapping {
	long := "//d/... > " + deep("c", "x", 10) + "/... - "
	return []noMapping{
		{mappingOf(listed("//d/#/... > //c/#/...", api.MaxEntries+1)), 0, api.ErrMappingLimit},
		{mappingOf(listed("//d/a > //c/a", api.MaxEntries+1)), 0, api.ErrMappingLimit},
		{mappingOf(listed("//d/a > //c/a", 20*api.MaxEntries)), 0, api.ErrMappingLimit},
		{mappingOf(long + "//d/a/b"), 0, api.ErrMappingLimit},
		{mappingOf(long + "//d/a //d/b/... //d/c/*/..."), 0, api.ErrMappingLimit},
		{mappingOf(long + "//d/... //d/a/b"), 0, api.ErrMappingLimit},
		{mappingOf("//e/a > //e/a; " + long + "//d/a/b; //e/b > //e/b"), 0, api.ErrMappingLimit},
		{mappingOf("//e/a > //e/a; //e/a > //e/a; " + long + "//d/a/b"), 0, api.ErrMappingLimit},
	}
}

// exhausting are two lists of 64 holes each that leave nothing of //d/... together; no hole lies within another one.
// The first one leaves paths of three components and more, the second one paths of two.
func exhausting() (string, string) {
	return "//d/* " + holes("//d/#/...", api.MaxHoles-1), "//d/*/* //d/*/*/... " + holes("//d/x#/...", api.MaxHoles-2)
}

// stairs are patterns of the paths below //d, one for each number of components from two on.
func stairs(count int) string {
	var list []string
	for i := range count {
		list = append(list, deep("d", "*", i+1))
	}
	return strings.Join(list, " ")
}

// overlaps lists entries that have paths in common.
func overlaps() []noMapping {
	one, two := exhausting()
	four := strings.Replace(two, "*/*/...", "*/*/*/...", 1)
	beyond := deep("d", "*", 11) + "/..."
	full := mappingOf(listed("//d/#/... > //c/#/...", api.MaxEntries))
	full[api.MaxEntries-1].Left = full[0].Left
	list := []noMapping{{full, api.MaxEntries - 1, api.ErrMappingOverlap}}
	for _, c := range []struct {
		m  string
		at int
	}{
		{"//d/* > //c/*; //d/a/... > //c/b/...; //d/a > //c/a", 2},
		{"//d/* > //c/*; //e/* > //c/*", 1},
		{"//d/* > //c/*; //d/* > //e/*", 1},
		{"//d/* > //c/*; //d/* > //c/*", 1},
		{"//d/*b > //c/*; //d/*ab > //e/*", 1},
		{"//d/a > //c/a; //e/a > //f/a; //d/* > //g/*", 2},
		{"//d/a > //c/a; //e/a > //f/a; //g/* > //f/*", 2},
		// The least index, whichever side it has in common, and with whichever entry before it.
		{"//d/a > //c/a; //d/b > //c/b; //d/c > //c/b; //d/d > //c/a", 2},
		{"//d/a > //c/a; //d/b > //c/b; //d/c > //c/a; //d/b > //c/c", 2},
		{"//d/a > //c/a; //d/b > //c/b; //d/a > //c/c; //d/d > //c/b", 2},
		{"//d/a > //c/a; //d/b > //c/b; //d/c > //c/c; //d/b > //c/d; //d/a > //c/e", 3},
		// Holes count on the left as they are, on the right by their left paths.
		{"//d/* > //c/* - //d/a; //d/a > //c/b", 1},
		{"//d/* > //c/* - //d/b; //d/b > //c/a", 1},
		{"//d/* > //c/* - //d/*x; //e/*x > //c/*y", 1},
		{"//d/* > //c/*y - //d/*zx; //e/* > //c/*xy", 1},
		{"//d/* > //c/* - //c/*; //e/* > //c/*", 1},
		{"//d/... > //c/... - //d/* //d/*/*; //d/... > //e/... - //d/*/*/*/...", 1},
		// Together the holes are more than those of one region.
		{"//d/... > //c/... - " + one + "; //d/... > //e/... - " + four, 1},
		{"//d/... > //c/... - " + one + "; //e/... > //c/... - " + strings.ReplaceAll(four, "//d", "//e"), 1},
		{"//d/... > //c/... - " + four + "; //d/... > //e/... - " + one, 1},
		{"//d/... > //c/... - " + holes("//d/#", 64) + "; //d/... > //e/... - " + holes("//d/x#", 64), 1},
		{"//d/... > //c/... - " + holes("//d/#", 64) + "; //e/... > //c/... - " + holes("//e/x#", 64), 1},
		// The common paths are those of thirteen components and more, or those of twelve.
		{"//d/... > //c/... - " + stairs(11) + "; //d/... > //e/...", 1},
		{"//d/... > //c/... - " + stairs(11) + "; //d/... > //e/... - " + deep("d", "*", 10) + "/x/...", 1},
		{"//d/... > //c/... - " + beyond + "; //d/... > //e/... - " + stairs(10), 1},
		{beyond + " > " + deep("c", "*", 11) + "/...; //d/... > //e/... - " + stairs(11), 1},
	} {
		list = append(list, noMapping{mappingOf(c.m), c.at, api.ErrMappingOverlap})
	}
	return list
}

// noMappings lists what is no mapping.
func noMappings() []noMapping {
	return slices.Concat(noEntries(), noLimits(), overlaps())
}

// sound lists mappings that are near to what is none.
func sound() []string {
	one, two := exhausting()
	beyond := deep("d", "*", 11) + "/..."
	long := "//d/... > " + deep("c", "x", 10) + "/... - "
	return []string{
		"",
		"//d/... > //c/...",
		"//d/a > //c/a; //d/b > //c/b; //c/a > //d/a",
		listed("//d/#/... > //c/#/...", api.MaxEntries),
		"//d/* > //c/* - " + holes("//d/#", api.MaxHoles),
		"//d/a > //c/a - " + holes("//d/a", api.MaxHoles),
		deep("d", "*", 11) + " > " + deep("c", "*", 11),
		// Holes that make the right side no longer than it may be, or do not meet the left side.
		long + "//d/a //d/b/... //e/a/b //e/a/b/...",
		deep("d", "x", 10) + "/... > //c/... - " + deep("d", "x", 11) + " " + deep("d", "y", 11),
		// Regions without paths are disjoint from all.
		"//d/* > //c/* - //d/*; //d/* > //c/*; //d/* > //c/* - //d/...",
		"//d/... > //c/... - //d/* //d/*/...; //d/... > //c/...",
		// Holes count on the left as they are, on the right by their left paths.
		"//d/* > //c/* - //d/a; //d/a > //c/a",
		"//d/* > //c/* - //d/a //d/x; //d/a > //c/x; //d/x > //c/a",
		"//d/* > //c/*y - //d/*x; //e/* > //c/*xy",
		"//d/* > //c/*y - //d/*x; //e/* > //c/*zxy",
		"//d/*/... > //c/*/... - //d/*/x/... //d/*/x; //e/... > //c/a/x/...; //f/a/b > //c/b/x",
		// Together the holes are more than those of one region.
		"//d/... > //c/... - " + one + "; //d/... > //e/... - " + two,
		"//d/... > //c/... - " + two + "; //d/... > //e/... - " + one,
		"//d/... > //c/... - " + one + "; //e/... > //c/... - " + strings.ReplaceAll(two, "//d", "//e"),
		"//d/... > //c/... - " + stairs(11) + "; //d/... > //e/... - " + beyond,
		beyond + " > " + deep("c", "*", 11) + "/...; //d/... > //e/... - " + beyond,
		"//d/... > //c/... - " + stairs(11) + " " + beyond + "; //d/... > //c/...",
	}
}

// P7.1: elements that are no entries before limits before overlaps, and mappings.
func TestCheck(t *testing.T) {
	for _, c := range noMappings() {
		if at, e := Check(c.m); at != c.at || e != c.e {
			t.Errorf("Check(%.200s) is %d, %d, not %d, %d", text(c.m), at, e, c.at, c.e)
		}
	}
	for _, s := range sound() {
		if at, e := Check(mappingOf(s)); at != 0 || e != api.OK {
			t.Errorf("Check(%.200s) is %d, %d", s, at, e)
		}
	}
}

// P7.1: all pairs of some entries, by their paths.
func TestCheckSome(t *testing.T) {
	w := newModel()
	for _, list := range [][]api.Entry{oneHole(), twoHoles()} {
		apart := w.apart(list)
		for i, x := range list {
			for j, y := range list {
				at, e := Check([]api.Entry{x, y})
				if apart(i, j) && (at != 0 || e != api.OK) || !apart(i, j) && (at != 1 || e != api.ErrMappingOverlap) {
					t.Errorf("Check(%s; %s) is %d, %d", text(list[i:i+1]), text(list[j:j+1]), at, e)
				}
			}
		}
	}
}

// P7.2: what is no mapping relates nothing, and the other functions return the error of Check.
func TestNoMappings(t *testing.T) {
	for _, c := range noMappings() {
		s := text(c.m)
		for _, x := range append(slices.Clone(c.m[:min(3, len(c.m))]), mappingOf("//d/a > //c/a; //d/e > //c/e")...) {
			left, right := patternText(x.Left), patternText(x.Right)
			for _, end := range []string{"", "a", "x"} {
				left, right = strings.ReplaceAll(left, "*", end), strings.ReplaceAll(right, "*", end)
				if got, ok := Forward(c.m, left); got != "" || ok {
					t.Errorf("Forward(%.200s, %s) is %q, %v", s, left, got, ok)
				}
				if got, ok := Backward(c.m, right); got != "" || ok {
					t.Errorf("Backward(%.200s, %s) is %q, %v", s, right, got, ok)
				}
			}
		}
		if m, e := Inverse(c.m); len(m) > 0 || e != c.e {
			t.Errorf("Inverse(%.200s) is %s, %d", s, text(m), e)
		}
		if l, e := Domain(c.m); len(l) > 0 || e != c.e {
			t.Errorf("Domain(%.200s) is %s, %d", s, regionsText(l), e)
		}
		for _, g := range []api.Region{{}, regionOf("//d/..."), regionOf("//y/z - //y/z")} {
			if m, e := Restrict(c.m, g); len(m) > 0 || e != c.e {
				t.Errorf("Restrict(%.200s, %s) is %s, %d", s, regionText(g), text(m), e)
			}
		}
	}
}

// P7.2: of two arguments that are no mappings the error of the first one is returned, and of one its own.
func TestErrorsOfPairs(t *testing.T) {
	list := []noMapping{{nil, 0, api.OK}, {mappingOf("//d/... > //c/..."), 0, api.OK}, noEntries()[0], noLimits()[0], noLimits()[3], overlaps()[1]}
	for _, a := range list {
		for _, b := range list {
			want := a.e
			if want == api.OK {
				want = b.e
			}
			if want == api.OK {
				continue
			}
			if m, e := Compose(a.m, b.m); len(m) > 0 || e != want {
				t.Errorf("Compose(%.200s and %.200s) is %s, %d", text(a.m), text(b.m), text(m), e)
			}
			if l, e := Overlap(a.m, b.m); len(l) > 0 || e != want {
				t.Errorf("Overlap(%.200s and %.200s) is %s, %d", text(a.m), text(b.m), regionsText(l), e)
			}
			if l, e := Agreement(a.m, b.m); len(l) > 0 || e != want {
				t.Errorf("Agreement(%.200s and %.200s) is %s, %d", text(a.m), text(b.m), regionsText(l), e)
			}
		}
	}
}

// P7.5: what is no region, behind the error of the mapping.
func TestErrorsOfRestrict(t *testing.T) {
	for _, s := range []string{"", "//d/... > //c/..."} {
		for _, g := range []api.Region{
			{}, {Base: api.Pattern{Rest: true}}, regionOf("//d"), regionOf("//d/a*"), regionOf("//d/a - //d"), regionOf("//d/a - //d/a //*/a"),
			regionOf("//e/a - " + holes("//e/b", api.MaxHoles+1)), regionOf("//d/... - " + deep("d", "x", 12)),
		} {
			if m, e := Restrict(mappingOf(s), g); len(m) > 0 || e != api.ErrMappingRegion {
				t.Errorf("Restrict(%s, %.200s) is %s, %d", s, regionText(g), text(m), e)
			}
		}
	}
}

// P7.2: all of some mappings with all of some paths, by the words of the chapter.
func TestForwardBackwardSome(t *testing.T) {
	w, files := newModel(), someFiles()
	for _, m := range slices.Concat(w.someMappings(oneHole(), 43), w.someMappings(twoHoles(), 43)) {
		for _, file := range files {
			want := w.forward(m, file)
			if s, ok := Forward(m, file); s != want || ok != (want != "") {
				t.Errorf("Forward(%s, %s) is %q, %v, not %q", text(m), file, s, ok, want)
			}
			want = w.backward(m, file)
			if s, ok := Backward(m, file); s != want || ok != (want != "") {
				t.Errorf("Backward(%s, %s) is %q, %v, not %q", text(m), file, s, ok, want)
			}
		}
	}
}

// P7.2: pairs that mappings relate, and what is related to nothing.
func TestForwardAndBackward(t *testing.T) {
	long, two := strings.Repeat("/b", 5000), "//d/*/... > //c/x/*/... - //d/a/... //d/*/y; //d/a/*.b > //c/y/*"
	full := listed("//d/#/... > //c/#/...", api.MaxEntries)
	for _, c := range []struct{ m, left, right string }{
		{two, "//d/q/r", "//c/x/q/r"},
		{two, "//d/q/r/s.b", "//c/x/q/r/s.b"},
		{two, "//d/a/q.b", "//c/y/q"},
		{two, "//d/a/q", ""},
		{two, "", "//c/x/a/q"},
		{two, "//d/q/y", ""},
		{two, "", "//c/x/q/y"},
		{two, "//d/q/y/z", "//c/x/q/y/z"},
		{two, "//d/q", ""},
		{two, "", "//c/x/q"},
		{two, "//c/y/q", ""},
		{two, "", "//d/q/r"},
		{two, "//d/*/q", ""},
		{two, "//d/q/", ""},
		{two, "//d/q/.r", ""},
		{two, "", "//c/y/.q"},
		{two, "//d/q" + long, "//c/x/q" + long},
		{"", "//d/a", ""},
		{"", "", "//d/a"},
		{"", "", ""},
		{"//d/* > //c/* - //c/a //d/b", "//d/a", "//c/a"},
		{"//d/* > //c/* - //c/a //d/b", "//d/b", ""},
		{"//d/* > //c/* - //d/*; //d/* > //c/x/*", "//d/b", "//c/x/b"},
		{"//d/* > //c/* - //d/*; //e/* > //c/*", "//e/b", "//c/b"},
		{full, "//d/31/a", "//c/31/a"},
		{full, "//d/00/a", "//c/00/a"},
		{full, "//d/32/a", ""},
		{full, "", "//c/32/a"},
	} {
		m := mappingOf(c.m)
		if s, ok := Forward(m, c.left); s != c.right && c.left != "" || ok != (c.left != "" && c.right != "") {
			t.Errorf("Forward(%s, %.60q) is %.60q, %v", c.m, c.left, s, ok)
		}
		if s, ok := Backward(m, c.right); s != c.left && c.right != "" || ok != (c.left != "" && c.right != "") {
			t.Errorf("Backward(%s, %.60q) is %.60q, %v", c.m, c.right, s, ok)
		}
	}
}

// areHoles reports whether the holes are the simplified ones of some patterns: none but what the patterns leave of the
// base, nothing left out, none within another one, and sorted.
func areHoles(l []api.Pattern, base api.Pattern, list []api.Pattern) bool {
	for i, h := range l {
		if i > 0 && patternText(l[i-1]) >= patternText(h) {
			return false
		}
		if slices.ContainsFunc(l, func(p api.Pattern) bool { return patternText(p) != patternText(h) && pattern.Within(h, p) }) {
			return false
		}
		if !slices.ContainsFunc(list, func(p api.Pattern) bool { return isMeet(h, base, p) }) {
			return false
		}
	}
	for _, p := range list {
		both, ok := pattern.Meet(base, p)
		if ok && !slices.ContainsFunc(l, func(h api.Pattern) bool { return pattern.Within(both, h) }) {
			return false
		}
	}
	return true
}

func isMeet(h, p, q api.Pattern) bool {
	both, ok := pattern.Meet(p, q)
	return ok && patternText(both) == patternText(h)
}

// areEntries reports whether the entries are those of a list, in its order, with simplified holes and without those of
// it whose regions are empty.
func areEntries(m, list []api.Entry) bool {
	for _, x := range list {
		if empty, _ := region.Empty(leftOf(x)); empty {
			continue
		}
		if len(m) == 0 || patternText(m[0].Left) != patternText(x.Left) || patternText(m[0].Right) != patternText(x.Right) || !areHoles(m[0].Holes, x.Left, x.Holes) {
			return false
		}
		m = m[1:]
	}
	return len(m) == 0
}

// areRegions is areEntries for regions, of entries without right sides.
func areRegions(l []api.Region, list []api.Entry) bool {
	var m []api.Entry
	for _, g := range l {
		m = append(m, api.Entry{Left: g.Base, Holes: g.Holes})
	}
	return areEntries(m, list)
}

// count is the number of regions that have a path.
func (w *model) count(l []api.Region, file string) int {
	n := 0
	for _, g := range l {
		if w.has(g, file) {
			n++
		}
	}
	return n
}

// inverses lists the entries of P7.3 before they are simplified.
func inverses(m []api.Entry) []api.Entry {
	var list []api.Entry
	for _, x := range m {
		y := api.Entry{Left: x.Right, Right: x.Left}
		for _, h := range x.Holes {
			if narrow, ok, _ := rule.NarrowLeft(lineOf(x), h); ok {
				y.Holes = append(y.Holes, narrow.Right)
			}
		}
		list = append(list, y)
	}
	return list
}

// P7.3: the inverses and the domains of all of some mappings, by their paths and by the words of the chapter.
func TestInverseDomainSome(t *testing.T) {
	w, files := newModel(), someFiles()
	for _, m := range slices.Concat(w.someMappings(oneHole(), 17), w.someMappings(twoHoles(), 17)) {
		back, e := Inverse(m)
		if e != api.OK || !areEntries(back, inverses(m)) {
			t.Errorf("Inverse(%s) is %s, %d", text(m), text(back), e)
		}
		var bases []api.Entry
		for _, x := range m {
			bases = append(bases, api.Entry{Left: x.Left, Holes: x.Holes})
		}
		l, e := Domain(m)
		if e != api.OK || !areRegions(l, bases) {
			t.Errorf("Domain(%s) is %s, %d", text(m), regionsText(l), e)
		}
		for _, file := range files {
			if got, want := w.forward(back, file), w.backward(m, file); got != want {
				t.Errorf("Inverse(%s) is %s: it relates %s to %q, not to %q", text(m), text(back), file, got, want)
			}
			if w.count(l, file) != number(w.forward(m, file) != "") {
				t.Errorf("Domain(%s) is %s: %s", text(m), regionsText(l), file)
			}
		}
	}
}

// P7.3: inverses and domains, written out.
func TestInverseAndDomain(t *testing.T) {
	most := holes("//d/#", api.MaxHoles)
	full := listed("//d/#/... > //c/#/...", api.MaxEntries)
	for _, c := range []struct{ m, inverse, domain string }{
		{"", "", ""},
		{"//d/... > //c/... - //d/*.tmp", "//c/... > //d/... - //c/*.tmp", "//d/... - //d/*.tmp"},
		{"//d/*.x/... > //c/y/*/...", "//c/y/*/... > //d/*.x/...", "//d/*.x/..."},
		// Holes are what is left of them in the base, without those within another one.
		{"//d/* > //c/*.x - //d/a //d/*b //d/cb //e/f", "//c/*.x > //d/* - //c/*b.x //c/a.x", "//d/* - //d/*b //d/a"},
		{"//d/*/x > //c/* - //d/a/... //d/*/* //d/b/y", "", ""},
		{"//d/*/x > //c/* - //d/a/... //d/b/* //d/c/y", "//c/* > //d/*/x - //c/a //c/b", "//d/*/x - //d/a/x //d/b/x"},
		{"//d/... > //c/... - //d/a //d/a //d/*/b //d/x/b", "//c/... > //d/... - //c/*/b //c/a", "//d/... - //d/*/b //d/a"},
		// They are sorted by their own texts.
		{"//d/* > //c/*.x - //d/a //d/a+", "//c/*.x > //d/* - //c/a+.x //c/a.x", "//d/* - //d/a //d/a+"},
		{"//d/*/... > //c/*+/... - //d/a/b //d/a-/b", "//c/*+/... > //d/*/... - //c/a+/b //c/a-+/b", "//d/*/... - //d/a-/b //d/a/b"},
		// Entries without paths are left out, the others stay in their order.
		{"//d/b > //c/z; //d/* > //c/* - //d/*; //d/a > //c/y", "//c/z > //d/b; //c/y > //d/a", "//d/b; //d/a"},
		{"//d/... > //c/... - //d/*/... //d/*; //e/a > //f/b", "//f/b > //e/a", "//e/a"},
		{"//d/a > //c/a - //d/...", "", ""},
		{"//d/* > //c/* - " + most, "//c/* > //d/* - " + strings.ReplaceAll(most, "//d", "//c"), "//d/* - " + most},
		{full, listed("//c/#/... > //d/#/...", api.MaxEntries), listed("//d/#/...", api.MaxEntries)},
	} {
		if m, e := Inverse(mappingOf(c.m)); text(m) != c.inverse || e != api.OK {
			t.Errorf("Inverse(%s) is %s, %d", c.m, text(m), e)
		}
		if l, e := Domain(mappingOf(c.m)); regionsText(l) != c.domain || e != api.OK {
			t.Errorf("Domain(%s) is %s, %d", c.m, regionsText(l), e)
		}
	}
}

// compositions lists the entries of P7.4 before they are simplified.
func compositions(a, b []api.Entry) []api.Entry {
	var list []api.Entry
	for _, x := range a {
		for _, y := range b {
			chain, ok, _ := rule.Chain(lineOf(x), lineOf(y))
			if !ok {
				continue
			}
			z := api.Entry{Left: chain.Left, Right: chain.Right, Holes: slices.Clone(x.Holes)}
			for _, h := range y.Holes {
				if narrow, met, _ := rule.NarrowRight(lineOf(x), h); met {
					z.Holes = append(z.Holes, narrow.Left)
				}
			}
			list = append(list, z)
		}
	}
	return list
}

// relation is forward for one mapping, of which it remembers what it said.
func (w *model) relation(m []api.Entry) func(string) string {
	known := map[string]string{}
	return func(file string) string {
		right, ok := known[file]
		if !ok {
			right = w.forward(m, file)
			known[file] = right
		}
		return right
	}
}

// P7.4: the compositions of all pairs of some mappings, by their paths and by the words of the chapter.
func TestComposeSome(t *testing.T) {
	w, files := newModel(), someFiles()
	for _, list := range [][][]api.Entry{w.someMappings(oneHole(), 211), w.someMappings(twoHoles(), 211)} {
		for _, a := range list {
			first := w.relation(a)
			for _, b := range list {
				second := w.relation(b)
				m, e := Compose(a, b)
				if e != api.OK || !areEntries(m, compositions(a, b)) {
					t.Errorf("Compose(%s and %s) is %s, %d", text(a), text(b), text(m), e)
				}
				for _, file := range files {
					if got, want := w.forward(m, file), second(first(file)); got != want {
						t.Errorf("Compose(%s and %s) is %s: it relates %s to %q, not to %q", text(a), text(b), text(m), file, got, want)
					}
				}
			}
		}
	}
}

// P7.5: the restrictions of some mappings to some regions, by their paths and by the words of the chapter.
func TestRestrictSome(t *testing.T) {
	w, files := newModel(), someFiles()
	for i, m := range slices.Concat(w.someMappings(oneHole(), 43), w.someMappings(twoHoles(), 43)) {
		for j, x := range append(oneHole(), twoHoles()...) {
			if (i+j)%20 != 0 {
				continue
			}
			g, list := leftOf(x), []api.Entry(nil)
			for _, y := range m {
				if narrow, ok, _ := rule.NarrowLeft(lineOf(y), g.Base); ok {
					list = append(list, api.Entry{Left: narrow.Left, Right: narrow.Right, Holes: slices.Concat(y.Holes, g.Holes)})
				}
			}
			less, e := Restrict(m, g)
			if e != api.OK || !areEntries(less, list) {
				t.Errorf("Restrict(%s, %s) is %s, %d", text(m), regionText(g), text(less), e)
			}
			for _, file := range files {
				want := ""
				if w.has(g, file) {
					want = w.forward(m, file)
				}
				if got := w.forward(less, file); got != want {
					t.Errorf("Restrict(%s, %s) is %s: it relates %s to %q, not to %q", text(m), regionText(g), text(less), file, got, want)
				}
			}
		}
	}
}

// common lists the entries of P7.6 before they are simplified: those of Overlap and those of Agreement.
func common(a, b []api.Entry) ([]api.Entry, []api.Entry) {
	var met, agreed []api.Entry
	for _, x := range a {
		for _, y := range b {
			both := slices.Concat(x.Holes, y.Holes)
			if p, ok := pattern.Meet(x.Left, y.Left); ok {
				met = append(met, api.Entry{Left: p, Holes: both})
			}
			if p, ok, _ := rule.Agree(lineOf(x), lineOf(y)); ok {
				agreed = append(agreed, api.Entry{Left: p, Holes: both})
			}
		}
	}
	return met, agreed
}

// P7.6: the overlaps and agreements of all pairs of some mappings, by their paths and by the words of the chapter.
func TestOverlapAgreementSome(t *testing.T) {
	w, files := newModel(), someFiles()
	for _, list := range [][][]api.Entry{w.someMappings(oneHole(), 307), w.someMappings(twoHoles(), 307)} {
		for _, a := range list {
			first := w.relation(a)
			for _, b := range list {
				second := w.relation(b)
				met, agreed := common(a, b)
				l, e := Overlap(a, b)
				if e != api.OK || !areRegions(l, met) {
					t.Errorf("Overlap(%s and %s) is %s, %d", text(a), text(b), regionsText(l), e)
				}
				same, e := Agreement(a, b)
				if e != api.OK || !areRegions(same, agreed) {
					t.Errorf("Agreement(%s and %s) is %s, %d", text(a), text(b), regionsText(same), e)
				}
				for _, file := range files {
					x, y := first(file), second(file)
					if w.count(l, file) != number(x != "" && y != "") || w.count(same, file) != number(x != "" && x == y) {
						t.Errorf("Overlap and Agreement(%s and %s) are %s and %s: %s", text(a), text(b), regionsText(l), regionsText(same), file)
					}
				}
			}
		}
	}
}

func number(b bool) int {
	if b {
		return 1
	}
	return 0
}

// P7.4: compositions, written out.
func TestCompose(t *testing.T) {
	for _, c := range []struct{ a, b, want string }{
		{"//d/... > //s/... - //d/x/...", "//s/*/a/... > //c/*/... - //s/b/a/c", "//d/*/a/... > //c/*/... - //d/b/a/c //d/x/a/..."},
		{"", "//s/* > //c/*", ""},
		{"//d/* > //s/*", "", ""},
		{"//d/* > //s/*", "//t/* > //c/*", ""},
		{"//d/a > //s/a", "//s/* > //c/*", "//d/a > //c/a"},
		{"//d/*.x > //s/*/y", "//s/*/z > //c/*", ""},
		{"//d/*.x > //s/*/y", "//s/*z/y > //c/*.z", "//d/*z.x > //c/*.z"},
		// By the entries of the first mapping, and for one of them by those of the second one.
		{"//d/* > //s/*; //e/* > //t/*", "//t/* > //z/*; //s/*x > //c/*", "//d/*x > //c/*; //e/* > //z/*"},
		{"//e/* > //s/*/a; //d/* > //s/*/b", "//s/y/* > //c/*/y; //s/x/* > //c/*/x", "//e/y > //c/a/y; //e/x > //c/a/x; //d/y > //c/b/y; //d/x > //c/b/x"},
		// Holes of the first mapping, and of the second one by the first one's lines, also from outside its left side.
		{"//d/* > //s/*.x - //d/a //d/*b", "//s/*.x > //c/* - //s/c.x //s/*d.x //s/a //s/b/...", "//d/* > //c/* - //d/*b //d/*d //d/a //d/c"},
		{"//d/* > //s/* - //d/a //d/*b", "//s/*x > //c/* - //s/a //s/*c //s/*bx //s/yx", "//d/*x > //c/* - //d/*bx //d/yx"},
		{"//d/*/... > //s/*/... - //d/a/...", "//s/*/b/... > //c/*/... - //s/*/...", ""},
		{"//d/* > //s/* - //d/a //d/*b //d/xb", "//s/* > //c/* - //s/*ab //s/b //s/a", "//d/* > //c/* - //d/*b //d/a //d/b"},
		// Entries without paths are left out.
		{"//d/* > //s/* - //d/a", "//s/a > //c/a; //s/b > //c/b", "//d/b > //c/b"},
		{"//d/a > //s/a; //d/b > //s/b", "//s/* > //c/* - //s/a", "//d/b > //c/b"},
		{"//d/... > //s/... - //d/*", "//s/... > //c/... - //s/*/...", ""},
		{"//d/... > //s/... - //d/*", "//s/... > //c/... - //s/*/*/...", "//d/... > //c/... - //d/* //d/*/*/..."},
		{"//d/* > //s/* - //d/*", "//s/* > //c/*", ""},
		{"//d/* > //s/*", "//s/* > //c/* - //s/...; //s/* > //c/*", "//d/* > //c/*"},
	} {
		if m, e := Compose(mappingOf(c.a), mappingOf(c.b)); text(m) != c.want || e != api.OK {
			t.Errorf("Compose(%s and %s) is %s, %d", c.a, c.b, text(m), e)
		}
	}
}

// P7.4: compositions at the limits and beyond them, also of entries that are left out.
func TestComposeLimit(t *testing.T) {
	wide := "//s/... > " + deep("c", "x", 10) + "/..."
	tall := deep("d", "x", 10) + "/... > //s/..."
	most := holes("//d/#", api.MaxHoles)
	one, two := exhausting()
	second := strings.ReplaceAll(two, "//d", "//s")
	for _, c := range []struct {
		a, b, want string
		e          api.Errno
	}{
		// Sides of twelve parts and of thirteen.
		{"//d/*/... > //s/*/...", wide, "//d/*/... > " + deep("c", "x", 10) + "/*/...", api.OK},
		{"//d/* > //s/*", wide, "//d/* > " + deep("c", "x", 10) + "/*", api.OK},
		{"//d/*/* > //s/*/*", wide, "", api.ErrMappingLimit},
		{"//d/*/*/... > //s/*/*/...", wide, "", api.ErrMappingLimit},
		{tall, "//s/a/b > //c/a", "", api.ErrMappingLimit},
		{tall, "//t/a/b > //c/a; //s/a > //c/b", deep("d", "x", 10) + "/a > //c/b", api.OK},
		{"//d/a > //t/a; //d/*/* > //s/*/* - //d/...; //d/b > //t/b", wide, "", api.ErrMappingLimit},
		// Holes of the second mapping, whether they meet its left side or not, if they meet the first one's right side.
		{tall, "//s/a > //c/a - //s/b/c", "", api.ErrMappingLimit},
		{tall, "//s/a > //c/a - //s/b/...", deep("d", "x", 10) + "/a > //c/a", api.OK},
		{tall, "//s/a > //c/a - //t/b/c", deep("d", "x", 10) + "/a > //c/a", api.OK},
		{tall, "//t/a > //c/a - //s/b/c", "", api.OK},
		{tall, "//s/... > //c/... - //s/*/*", "", api.ErrMappingLimit},
		{tall + " - " + deep("d", "x", 10) + "/...", "//s/... > //c/... - //s/*/*", "", api.ErrMappingLimit},
		// Holes of both mappings, as many as stay when they are simplified.
		{"//d/... > //s/... - " + most, "//s/... > //c/... - " + holes("//s/#", api.MaxHoles), "//d/... > //c/... - " + most, api.OK},
		{"//d/... > //s/... - " + most, "//s/... > //c/... - " + holes("//s/x#", api.MaxHoles-1) + " //s/*", "//d/... > //c/... - //d/*", api.OK},
		{"//d/... > //s/... - " + most, "//s/... > //c/... - " + holes("//s/x#", api.MaxHoles), "", api.ErrMappingLimit},
		{"//d/... > //s/... - " + most, "//s/... > //c/... - //s/0", "", api.ErrMappingLimit},
		{"//d/... > //s/... - " + holes("//d/#", api.MaxHoles-1), "//s/... > //c/... - //s/y", "//d/... > //c/... - " + holes("//d/#", api.MaxHoles-1) + " //d/y", api.OK},
		{"//d/... > //s/... - " + most, "//s/*x > //c/* - //s/0", "//d/*x > //c/*", api.OK},
		{"//d/... > //s/... - " + one, "//s/... > //c/... - " + second, "", api.ErrMappingLimit},
		// Entries that are found, without those that are left out.
		{listed("//d/#/* > //s/#/*", 32), "//s/*/a > //c/*", listed("//d/#/a > //c/#", 32), api.OK},
		{listed("//d/x#/*/* > //s/*/x#/*", 2), listed("//s/*/*/x# > //c/x#/*/*", 16), crossed(2, 16), api.OK},
		{listed("//d/x#/*/* > //s/*/x#/*", 3), listed("//s/*/*/x# > //c/x#/*/*", 11), "", api.ErrMappingLimit},
		{listed("//d/x#/*/* > //s/*/x#/*", 11), listed("//s/*/*/x# > //c/x#/*/*", 3), "", api.ErrMappingLimit},
		{listed("//d/x#/*/* > //s/*/x#/*", 3), listed("//s/*/*/x# > //c/x#/*/*", 11) + " - //s/*/x01/x10", left(crossed(3, 11), 21), api.OK},
		{listed("//d/x#/*/* > //s/*/x#/*", 32), listed("//s/*/*/x# > //c/x#/*/*", 32), "", api.ErrMappingLimit},
	} {
		if m, e := Compose(mappingOf(c.a), mappingOf(c.b)); text(m) != c.want || e != c.e {
			t.Errorf("Compose(%s and %s) is %s, %d", c.a, c.b, text(m), e)
		}
	}
}

// crossed is the composition of first and second entries that all meet.
func crossed(first, second int) string {
	var list []string
	for _, x := range numbered("#", 0, first) {
		list = append(list, numbered("//d/x"+x+"/*/x# > //c/x#/*/x"+x, 0, second)...)
	}
	return strings.Join(list, "; ")
}

// left is a mapping without the entry at an index.
func left(s string, at int) string {
	return strings.Join(slices.Delete(strings.Split(s, "; "), at, at+1), "; ")
}

// P7.5: restrictions, written out.
func TestRestrict(t *testing.T) {
	wide := "//s/... > " + deep("c", "x", 10) + "/..."
	most := holes("//d/#", api.MaxHoles)
	one, two := exhausting()
	for _, c := range []struct {
		m, g, want string
		e          api.Errno
	}{
		{"//d/... > //c/...", "//d/a/... - //d/a/b", "//d/a/... > //c/a/... - //d/a/b", api.OK},
		{"", "//d/a", "", api.OK},
		{"//d/*.x > //c/*/y", "//d/*b.x - //d/ab.x", "//d/*b.x > //c/*b/y - //d/ab.x", api.OK},
		{"//d/*b.x > //c/*/y", "//d/*.x - //d/a.x", "//d/*b.x > //c/*/y", api.OK},
		{"//d/*/... > //c/*/...", "//d/a/*/c", "//d/a/*/c > //c/a/*/c", api.OK},
		{"//d/* > //c/*; //e/* > //f/*", "//d/...", "//d/* > //c/*", api.OK},
		{"//d/b > //c/z; //e/* > //f/*; //d/a > //c/y", "//d/*", "//d/b > //c/z; //d/a > //c/y", api.OK},
		{"//d/* > //c/* - //d/*x", "//d/... - //d/a //d/bx //d/c/d", "//d/* > //c/* - //d/*x //d/a", api.OK},
		// Holes of both, as they meet the narrower side.
		{"//d/... > //c/... - //d/*x //d/a/b //d/c/...", "//d/* - //d/a/... //d/*x //d/y", "//d/* > //c/* - //d/*x //d/y", api.OK},
		// Entries without paths are left out.
		{"//d/* > //c/* - //d/*x", "//d/ax", "", api.OK},
		{"//d/* > //c/*", "//d/a - //d/*", "", api.OK},
		{"//d/... > //c/...", "//d/... - //d/* //d/*/...", "", api.OK},
		{"//d/... > //c/... - //d/*", "//d/... - //d/*/...", "", api.OK},
		{"//d/* > //c/* - //d/*; //d/a > //c/b", "//d/...", "//d/a > //c/b", api.OK},
		// Right sides of twelve parts and of thirteen.
		{wide, "//s/*/... - //s/a/b/c", "//s/*/... > " + deep("c", "x", 10) + "/*/... - //s/a/b/c", api.OK},
		{wide, "//s/a/b", "", api.ErrMappingLimit},
		{wide, "//s/a/b - //s/...", "", api.ErrMappingLimit},
		{wide + " - //s/...", "//s/a/b", "", api.ErrMappingLimit},
		{wide, "//t/a/b", "", api.OK},
		{"//t/... > //t/...; " + wide, "//s/*/*/...", "", api.ErrMappingLimit},
		// Holes as many as stay when they are simplified.
		{"//d/... > //c/... - " + most, "//d/... - " + most, "//d/... > //c/... - " + most, api.OK},
		{"//d/... > //c/... - " + most, "//d/... - " + holes("//d/x#", api.MaxHoles-1) + " //d/*", "//d/... > //c/... - //d/*", api.OK},
		{"//d/... > //c/... - " + most, "//d/... - //d/y", "", api.ErrMappingLimit},
		{"//d/... > //c/...", "//d/... - " + most, "//d/... > //c/... - " + most, api.OK},
		{"//d/... > //c/... - //d/y", "//d/... - " + most, "", api.ErrMappingLimit},
		{"//d/... > //c/... - " + most, "//d/* - //d/y/z", "//d/* > //c/* - " + most, api.OK},
		{"//d/... > //c/... - " + one, "//d/... - " + two, "", api.ErrMappingLimit},
		{listed("//d/#/* > //c/#/*", api.MaxEntries), "//d/*/a - //d/01/*", left(listed("//d/#/a > //c/#/a", api.MaxEntries), 1), api.OK},
		{listed("//d/#/* > //c/#/*", api.MaxEntries), "//d/...", listed("//d/#/* > //c/#/*", api.MaxEntries), api.OK},
	} {
		if m, e := Restrict(mappingOf(c.m), regionOf(c.g)); text(m) != c.want || e != c.e {
			t.Errorf("Restrict(%s, %s) is %s, %d", c.m, c.g, text(m), e)
		}
	}
}

// P7.6: overlaps and agreements, written out.
func TestOverlapAndAgreement(t *testing.T) {
	for _, c := range []struct{ a, b, overlap, agreement string }{
		{"//a/... > //b/c/...", "//a/*/... > //b/*/c/...", "//a/*/...", "//a/c/..."},
		{"//a/... > //b/c/... - //a/c/d/...", "//a/*/... > //b/*/c/... - //a/c/*", "//a/*/... - //a/c/* //a/c/d/...", "//a/c/... - //a/c/* //a/c/d/..."},
		{"", "//a/* > //b/*", "", ""},
		{"//a/* > //b/*", "", "", ""},
		{"//a/* > //b/*", "//c/* > //b/*", "", ""},
		{"//a/* > //b/*", "//a/* > //b/*x", "//a/*", ""},
		{"//a/*.x > //b/*", "//a/y.x > //b/y", "//a/y.x", "//a/y.x"},
		{"//a/*.x > //b/*", "//a/y.x > //b/z", "//a/y.x", ""},
		// Holes of both, as they meet the common paths.
		{"//a/* > //b/* - //a/x", "//a/... > //b/... - //a/y //a/y/z", "//a/* - //a/x //a/y", "//a/* - //a/x //a/y"},
		{"//a/* > //b/* - //a/x //a/*y", "//a/... > //b/... - //a/zy //a/x", "//a/* - //a/*y //a/x", "//a/* - //a/*y //a/x"},
		{"//a/*/* > //b/*/* - //a/x/*", "//a/*/* > //b/*/* - //a/*/y", "//a/*/* - //a/*/y //a/x/*", "//a/*/* - //a/*/y //a/x/*"},
		// Regions without paths are left out.
		{"//a/* > //b/* - //a/x", "//a/x > //b/x", "", ""},
		{"//a/... > //b/... - //a/*", "//a/... > //b/... - //a/*/...", "", ""},
		{"//a/... > //b/c/... - //a/c/*", "//a/*/... > //b/*/c/... - //a/*/*/...", "//a/*/... - //a/*/*/... //a/c/*", ""},
		{"//a/* > //b/* - //a/*", "//a/* > //b/*", "", ""},
		// By the entries of the first mapping, and for one of them by those of the second one.
		{"//a/x > //b/y; //a/y > //b/x", "//a/* > //b/*", "//a/x; //a/y", ""},
		{"//a/y > //b/y; //a/x > //b/x", "//a/* > //b/*", "//a/y; //a/x", "//a/y; //a/x"},
		{"//a/y/* > //b/y/*; //a/x/* > //b/x/*", "//a/*/b > //b/*/b; //a/*/a > //b/*/a", "//a/y/b; //a/y/a; //a/x/b; //a/x/a", "//a/y/b; //a/y/a; //a/x/b; //a/x/a"},
		{"//a/* > //b/*", "//a/y > //b/y; //a/z > //b/x; //a/x > //c/x; //a/w > //b/w", "//a/y; //a/z; //a/x; //a/w", "//a/y; //a/w"},
	} {
		if l, e := Overlap(mappingOf(c.a), mappingOf(c.b)); regionsText(l) != c.overlap || e != api.OK {
			t.Errorf("Overlap(%s and %s) is %s, %d", c.a, c.b, regionsText(l), e)
		}
		if l, e := Agreement(mappingOf(c.a), mappingOf(c.b)); regionsText(l) != c.agreement || e != api.OK {
			t.Errorf("Agreement(%s and %s) is %s, %d", c.a, c.b, regionsText(l), e)
		}
	}
}

// P7.6: overlaps and agreements at the limits and beyond them, also of regions that are left out.
func TestOverlapAgreementLimit(t *testing.T) {
	wide := "//a/... > " + deep("c", "x", 10) + "/..."
	most := holes("//a/#", api.MaxHoles)
	same := "//a/... > //b/... - "
	one, two := exhausting()
	one, two = strings.ReplaceAll(one, "//d", "//a"), strings.ReplaceAll(two, "//d", "//a")
	rows, columns := "//a/x#/* > //b/x#/*", "//a/*/x# > //b/*/x#"
	for _, c := range []struct {
		a, b               string
		overlap, agreement string
		e, f               api.Errno
	}{
		// Holes as many as stay when they are simplified.
		{same + most, same + most, "//a/... - " + most, "//a/... - " + most, api.OK, api.OK},
		{same + most, same + holes("//a/x#", api.MaxHoles-1) + " //a/*", "//a/... - //a/*", "//a/... - //a/*", api.OK, api.OK},
		{same + most, same + "//a/y", "", "", api.ErrMappingLimit, api.ErrMappingLimit},
		{same + "//a/y", same + most, "", "", api.ErrMappingLimit, api.ErrMappingLimit},
		{same + one, same + two, "", "", api.ErrMappingLimit, api.ErrMappingLimit},
		{same + most, "//a/*/... > //b/*/... - //a/y/z", "//a/*/... - //a/y/z", "//a/*/... - //a/y/z", api.OK, api.OK},
		{"//a/... > //b/c/... - " + most, "//a/... > //b/d/... - //a/y", "", "", api.ErrMappingLimit, api.OK},
		{"//a/... > //b/c/... - " + holes("//a/#/y", api.MaxHoles), "//a/*/... > //b/*/c/... - //a/x/z", "", "//a/c/...", api.ErrMappingLimit, api.OK},
		// Right sides that are too long when they are narrowed count for the agreement, whether they agree or not.
		{wide, "//a/*/* > //c/*/*", "//a/*/*", "", api.OK, api.ErrMappingLimit},
		{"//a/*/* > //c/*/*", wide, "//a/*/*", "", api.OK, api.ErrMappingLimit},
		{wide + " - //a/...", "//a/*/* > //c/*/*", "", "", api.OK, api.ErrMappingLimit},
		{wide, "//d/*/* > //c/*/*", "", "", api.OK, api.OK},
		{wide, "//a/* > " + deep("c", "x", 10) + "/*", "//a/*", "//a/*", api.OK, api.OK},
		// Regions that are found, without those that are left out.
		{listed(rows, 2), listed(columns, 16), grid(2, 16), grid(2, 16), api.OK, api.OK},
		{listed(rows, 16), listed(columns, 2), grid(16, 2), grid(16, 2), api.OK, api.OK},
		{listed(rows, 3), listed(columns, 11), "", "", api.ErrMappingLimit, api.ErrMappingLimit},
		{listed(rows, 3), listed(columns, 11) + " - //a/x01/x10", left(grid(3, 11), 21), left(grid(3, 11), 21), api.OK, api.OK},
		{listed(rows, 3), listed("//a/*/x# > //b/x#/*", 11), "", "//a/x00/x00; //a/x01/x01; //a/x02/x02", api.ErrMappingLimit, api.OK},
	} {
		if l, e := Overlap(mappingOf(c.a), mappingOf(c.b)); regionsText(l) != c.overlap || e != c.e {
			t.Errorf("Overlap(%s and %s) is %s, %d", c.a, c.b, regionsText(l), e)
		}
		if l, e := Agreement(mappingOf(c.a), mappingOf(c.b)); regionsText(l) != c.agreement || e != c.f {
			t.Errorf("Agreement(%s and %s) is %s, %d", c.a, c.b, regionsText(l), e)
		}
	}
}

// grid lists the paths with each of some first names and each of some second ones.
func grid(first, second int) string {
	var list []string
	for _, x := range numbered("#", 0, first) {
		list = append(list, numbered("//a/x"+x+"/x#", 0, second)...)
	}
	return strings.Join(list, "; ")
}

// alike reports whether two mappings relate the same pairs of some left paths.
func (w *model) alike(a, b []api.Entry, files []string) bool {
	for _, file := range files {
		if w.forward(a, file) != w.forward(b, file) {
			return false
		}
	}
	return true
}

// P7.7: the compositions of all triples of some mappings, and the inverses of those of all pairs.
func TestAlgebraSome(t *testing.T) {
	w, files := newModel(), someFiles()
	for _, list := range [][][]api.Entry{w.someMappings(oneHole(), 977), w.someMappings(twoHoles(), 977)} {
		for _, a := range list {
			for _, b := range list {
				ab, e := Compose(a, b)
				turned, f := Inverse(ab)
				back, g := Compose(must(Inverse(b)), must(Inverse(a)))
				if e != api.OK || f != api.OK || g != api.OK || !w.alike(turned, back, files) {
					t.Errorf("the inverse of %s and %s: %s or %s, %d, %d, %d", text(a), text(b), text(turned), text(back), e, f, g)
				}
				for _, c := range list {
					x, e := Compose(ab, c)
					y, f := Compose(a, must(Compose(b, c)))
					if e != api.OK || f != api.OK || !w.alike(x, y, files) {
						t.Errorf("%s and %s and %s: %s or %s, %d, %d", text(a), text(b), text(c), text(x), text(y), e, f)
					}
				}
			}
		}
	}
}

// must is a result without error.
func must[T any](l []T, e api.Errno) []T {
	if e != api.OK {
		panic("an error of a mapping")
	}
	return l
}

// P7.3 to P7.5: what the functions return is a mapping again.
func TestResultsAreMappings(t *testing.T) {
	w := newModel()
	for _, list := range [][][]api.Entry{w.someMappings(oneHole(), 397), w.someMappings(twoHoles(), 397)} {
		for _, a := range list {
			for _, b := range list {
				less, _ := Restrict(a, regionOf("//r/*/... - //r/*/a //r/b/..."))
				for _, m := range [][]api.Entry{must(Compose(a, b)), must(Inverse(a)), less} {
					if at, e := Check(m); at != 0 || e != api.OK {
						t.Errorf("Check(%s), made of %s and %s, is %d, %d", text(m), text(a), text(b), at, e)
					}
				}
			}
		}
	}
}

// memory keeps the lists of some mappings and regions.
type memory struct {
	parts [][]string
	holes [][]api.Pattern
}

// pattern copies a pattern with spare capacity behind its parts, and keeps them as a whole.
func (k *memory) pattern(p api.Pattern) api.Pattern {
	whole := append(slices.Clone(p.Parts), "spare", "spare", "spare")
	k.parts = append(k.parts, whole)
	return api.Pattern{Parts: whole[:len(p.Parts)], Rest: p.Rest}
}

func (k *memory) patterns(list []api.Pattern) []api.Pattern {
	var whole []api.Pattern
	for _, p := range append(slices.Clone(list), parted("//spare/a"), parted("//spare/b")) {
		whole = append(whole, k.pattern(p))
	}
	k.holes = append(k.holes, whole)
	return whole[:len(list)]
}

// mapping copies a mapping, so that it has a lot of spare capacity.
func (k *memory) mapping(m []api.Entry) []api.Entry {
	var list []api.Entry
	for _, x := range m {
		list = append(list, api.Entry{Left: k.pattern(x.Left), Right: k.pattern(x.Right), Holes: k.patterns(x.Holes)})
	}
	return list
}

func (k *memory) region(g api.Region) api.Region {
	return api.Region{Base: k.pattern(g.Base), Holes: k.patterns(g.Holes)}
}

// keep notes the lists of results.
func (k *memory) keep(m []api.Entry, l []api.Region) {
	for _, x := range m {
		k.parts = append(k.parts, x.Right.Parts)
		l = append(l, leftOf(x))
	}
	for _, g := range l {
		k.parts, k.holes = append(k.parts, g.Base.Parts), append(k.holes, g.Holes)
		for _, h := range g.Holes {
			k.parts = append(k.parts, h.Parts)
		}
	}
}

func partsText(parts []string) string {
	return strings.Join(parts, " ")
}

func patternsText(list []api.Pattern) string {
	return regionText(api.Region{Holes: list})
}

// state is all that the lists hold.
func (k *memory) state() string {
	s := ""
	for _, parts := range k.parts {
		s += partsText(parts) + "; "
	}
	for _, list := range k.holes {
		s += patternsText(list) + "; "
	}
	return s
}

// spoil overwrites lists and their spare capacity one by one, and reports whether those behind stay as they are.
func spoil[T any](lists [][]T, bad T, text func([]T) string) bool {
	apart := true
	for i, list := range lists {
		var before []string
		for _, other := range lists[i+1:] {
			before = append(before, text(other))
		}
		for k := range list[:cap(list)] {
			list[:cap(list)][k] = bad
		}
		for k, other := range lists[i+1:] {
			apart = apart && text(other) == before[k]
		}
	}
	return apart
}

// R4: arguments stay as they are, and results share no memory with them nor with each other.
func TestMemory(t *testing.T) {
	for _, c := range []struct{ a, b, g string }{
		{"//d/... > //d/... - //d/*.tmp //d/x/y //e/f", "//d/* > //d/*; //d/*/... > //e/*/... - //d/y/z //d/*/x", "//d/... - //d/z //d/y/..."},
		{"//d/... > //d/...", "//d/... > //d/...", "//d/..."},
		{"//d/*.a/... > //d/*/...; //d/e > //d/d - //d/a", "//d/*/... > //d/*/... - //d/q/... //d/q/r", "//d/*.a/... - //d/b.a/*"},
		{"//d/a > //d/b; //d/c > //d/c; //d/* > //d/* - //d/...", "//d/* > //d/* - //d/a", "//d/* - //d/b"},
	} {
		arguments, results := &memory{}, &memory{}
		a, b, g := arguments.mapping(mappingOf(c.a)), arguments.mapping(mappingOf(c.b)), arguments.region(regionOf(c.g))
		before := arguments.state()
		Check(a)
		Forward(a, "//d/x")
		Backward(a, "//d/x")
		for _, pair := range [][2][]api.Entry{{a, b}, {b, a}, {a, a}} {
			results.keep(must(Compose(pair[0], pair[1])), must(Overlap(pair[0], pair[1])))
			results.keep(must(Inverse(pair[0])), must(Agreement(pair[0], pair[1])))
			results.keep(must(Restrict(pair[0], g)), must(Domain(pair[0])))
		}
		if !spoil(results.holes, parted("//spoilt"), patternsText) || !spoil(results.parts, "spoilt", partsText) {
			t.Errorf("%s and %s: results share memory", c.a, c.b)
		}
		if arguments.state() != before || text(a) != c.a || text(b) != c.b || regionText(g) != c.g {
			t.Errorf("%s and %s and %s: the arguments are now %s and %s and %s", c.a, c.b, c.g, text(a), text(b), regionText(g))
		}
	}
}
