package region

import (
	"regexp"
	"slices"
	"strings"
	"testing"

	"stockyard/api"
	"stockyard/pattern"
)

const componentForm = `[A-Za-z0-9_+-][A-Za-z0-9_.+-]*`

// parted is the pattern of a text that need not be one of a pattern.
func parted(s string) api.Pattern {
	s, rest := strings.CutSuffix(s, "/...")
	return api.Pattern{Parts: strings.Split(strings.TrimPrefix(s, "//"), "/"), Rest: rest}
}

// region reads a region from the text of its base and, behind " - ", those of its holes with spaces between them.
func region(s string) api.Region {
	base, holes, _ := strings.Cut(s, " - ")
	g := api.Region{Base: parted(base)}
	for _, h := range strings.Fields(holes) {
		g.Holes = append(g.Holes, parted(h))
	}
	return g
}

func patternText(p api.Pattern) string {
	s := "//" + strings.Join(p.Parts, "/")
	if p.Rest {
		s += "/..."
	}
	return s
}

// regionText is what region reads; it is nothing for the zero region.
func regionText(g api.Region) string {
	if len(g.Base.Parts) == 0 && !g.Base.Rest && len(g.Holes) == 0 {
		return ""
	}
	var holes []string
	for _, h := range g.Holes {
		holes = append(holes, patternText(h))
	}
	s := patternText(g.Base)
	if len(holes) > 0 {
		s += " - " + strings.Join(holes, " ")
	}
	return s
}

func regionTexts(l []api.Region) []string {
	var texts []string
	for _, g := range l {
		texts = append(texts, regionText(g))
	}
	return texts
}

// numbered lists count holes: the text with each of the numbers from first on, of two digits, in the place of "#".
func numbered(form string, first, count int) string {
	var list []string
	for i := range count {
		number := string([]byte{byte('0' + (first+i)/10), byte('0' + (first+i)%10)})
		list = append(list, strings.ReplaceAll(form, "#", number))
	}
	return strings.Join(list, " ")
}

// deep is the text of the part first and, behind it, count times part.
func deep(first, part string, count int) string {
	return "//" + first + strings.Repeat("/"+part, count)
}

// world is a list of paths in the order of regions' paths, and the sets of those that patterns match.
type world struct {
	files []string
	sets  map[string][]uint64
}

// newWorld lists the paths below //r of one to four components of some names. In a component of the least path of a
// region of someEnds stands one of the first three texts of a part at the most: the names have all of these.
func newWorld() *world {
	w := &world{sets: map[string][]uint64{}}
	row := []string{"//r"}
	for range 4 {
		var next []string
		for _, dir := range row {
			for _, name := range []string{"+", "-", "0", "a", "+a", "-a", "ba", "+ba", "-ba"} {
				next = append(next, dir+"/"+name)
			}
		}
		w.files = append(w.files, next...)
		row = next
	}
	return w
}

// matched is the set of the paths that match a pattern.
func (w *world) matched(p api.Pattern) []uint64 {
	key := patternText(p)
	if s, ok := w.sets[key]; ok {
		return s
	}
	form := `\A/`
	for _, part := range p.Parts {
		if suffix, found := strings.CutPrefix(part, "*"); found {
			form += `/` + componentForm + regexp.QuoteMeta(suffix)
		} else {
			form += `/` + regexp.QuoteMeta(part)
		}
	}
	if p.Rest {
		form += `(?:/` + componentForm + `)+`
	}
	matcher := regexp.MustCompile(form + `\z`)
	s := make([]uint64, (len(w.files)+63)/64)
	for i, file := range w.files {
		if matcher.MatchString(file) {
			s[i/64] |= 1 << (i % 64)
		}
	}
	w.sets[key] = s
	return s
}

// within is the set of the paths of a region.
func (w *world) within(g api.Region) []uint64 {
	s := slices.Clone(w.matched(g.Base))
	for _, h := range g.Holes {
		for i, word := range w.matched(h) {
			s[i] &^= word
		}
	}
	return s
}

// first is the least path of a set, and empty if there is none.
func (w *world) first(s []uint64) string {
	for i, word := range s {
		for bit := range 64 {
			if word>>bit&1 == 1 {
				return w.files[64*i+bit]
			}
		}
	}
	return ""
}

func someEnds() []string {
	return []string{
		"...", "*", "*a", "*ba", "a", "+", "ba", "*/...", "*a/...", "a/...", "*/*", "*/*a", "a/*", "*a/*", "+/*", "*/+", "a/ba",
		"*/*/...", "*/*/*", "*/a/*",
	}
}

// someRegions lists the regions below //r of each of some ends without up to most others.
func someRegions(ends []string, most int) []api.Region {
	rows := [][]api.Pattern{nil}
	for begin := 0; most > 0; most-- {
		row := rows[begin:]
		begin = len(rows)
		for _, holes := range row {
			for _, end := range ends {
				rows = append(rows, append(slices.Clone(holes), parted("//r/"+end)))
			}
		}
	}
	var list []api.Region
	for _, end := range ends {
		for _, holes := range rows {
			list = append(list, api.Region{Base: parted("//r/" + end), Holes: holes})
		}
	}
	return list
}

// noRegions lists what is no region, with the error of Check.
func noRegions() map[api.Errno][]api.Region {
	good := region("//a/... - //a/b //c/*.x/...")
	many := deep("a", "a", api.MaxParts)
	limit := region("//a/... - " + numbered("//a/#", 0, api.MaxHoles+1))
	list := map[api.Errno][]api.Region{api.ErrRegionLimit: {
		limit,
		region("//a/b - " + numbered("//c/d", 0, api.MaxHoles+1)),
		region("//a/* - " + numbered("//a/*", 0, 20*api.MaxHoles)),
	}}
	for _, s := range []string{"//", "///...", "//a", "//*/a", "//*/...", "//a//b", "//a/b*", "//a/.b", "//a/...b", "//a/.../b", "//a/ b", "//a/**", many, many + "/..."} {
		bad := parted(s)
		list[api.ErrRegionBase] = append(list[api.ErrRegionBase],
			api.Region{Base: bad}, api.Region{Base: bad, Holes: good.Holes}, api.Region{Base: bad, Holes: []api.Pattern{bad}}, api.Region{Base: bad, Holes: limit.Holes})
		list[api.ErrRegionHole] = append(list[api.ErrRegionHole],
			api.Region{Base: good.Base, Holes: []api.Pattern{bad}},
			api.Region{Base: good.Base, Holes: append(slices.Clone(good.Holes), bad)},
			api.Region{Base: good.Base, Holes: append([]api.Pattern{bad}, good.Holes...)},
			api.Region{Base: good.Base, Holes: append(slices.Clone(limit.Holes), bad)})
	}
	list[api.ErrRegionBase] = append(list[api.ErrRegionBase], api.Region{}, api.Region{Base: api.Pattern{Rest: true}})
	list[api.ErrRegionHole] = append(list[api.ErrRegionHole], api.Region{Base: good.Base, Holes: []api.Pattern{{}}})
	return list
}

// P5.1: the errors of Check, and regions that have none.
func TestCheck(t *testing.T) {
	for want, list := range noRegions() {
		for _, g := range list {
			if e := Check(g); e != want {
				t.Errorf("Check(%.200s) is %d, not %d", regionText(g), e, want)
			}
		}
	}
	for _, s := range []string{
		"//a/b", "//a/...", "//a/* - //a/*", "//a/* - //b/c //b/c", "//a/b - //c/d/...", deep("a", "*", 11) + "/... - " + deep("a", "*.x", 11),
		"//a/* - " + numbered("//a/#", 0, api.MaxHoles), "//a/b - " + numbered("//c/d", 0, api.MaxHoles),
	} {
		if e := Check(region(s)); e != api.OK {
			t.Errorf("Check(%s) is %d", s, e)
		}
	}
}

// P5.1: all other functions return the error of Check, that of the first argument before that of the second one.
func TestErrors(t *testing.T) {
	good := region("//a/... - //a/b //c/*.x/...")
	other := noRegions()
	for want, list := range noRegions() {
		for _, g := range list {
			if x, e := Simplify(g); regionText(x) != "" || e != want {
				t.Errorf("Simplify(%.200s) is %s, %d", regionText(g), regionText(x), e)
			}
			if empty, e := Empty(g); empty || e != want {
				t.Errorf("Empty(%.200s) is %v, %d", regionText(g), empty, e)
			}
			if s, ok, e := Least(g); s != "" || ok || e != want {
				t.Errorf("Least(%.200s) is %s, %v, %d", regionText(g), s, ok, e)
			}
			pairs := [][2]api.Region{{g, good}, {good, g}, {region("//y/z"), g}, {g, region("//y/z")}, {g, other[api.ErrRegionBase][0]}, {g, other[api.ErrRegionLimit][0]}}
			for _, pair := range pairs {
				if x, ok, e := Meet(pair[0], pair[1]); regionText(x) != "" || ok || e != want {
					t.Errorf("Meet(%.200s, %.200s) is %s, %v, %d", regionText(pair[0]), regionText(pair[1]), regionText(x), ok, e)
				}
				if l, e := Minus(pair[0], pair[1]); len(l) > 0 || e != want {
					t.Errorf("Minus(%.200s, %.200s) is %q, %d", regionText(pair[0]), regionText(pair[1]), regionTexts(l), e)
				}
			}
		}
	}
}

// P5.1: paths and other texts, and what is no region.
func TestHas(t *testing.T) {
	for _, c := range []struct {
		g, file string
		want    bool
	}{
		{"//a/...", "//a/b", true},
		{"//a/...", "//a" + strings.Repeat("/b", 5000), true},
		{"//a/...", "//a", false},
		{"//a/...", "//a/", false},
		{"//a/...", "//a/.b", false},
		{"//a/...", "//a/...", false},
		{"//a/...", "", false},
		{"//a/* - //a/x //a/*y", "//a/x", false},
		{"//a/* - //a/x //a/*y", "//a/xy", false},
		{"//a/* - //a/x //a/*y", "//a/y", true},
		{"//a/* - //a/x //a/*y", "//a/yx", true},
		{"//a/* - //a/x //a/*y", "//b/yx", false},
		{"//a/* - //a/x //a/*y", "//a/*", false},
		{"//a/* - //a/x/... //a/x/y //b/z", "//a/x", true},
		{"//a/... - //a/x/... //a/x/y //b/z", "//a/x/y", false},
		{"//a/... - //a/x/... //a/x/y //b/z", "//a/x/z", false},
		{"//a/b - //a/b", "//a/b", false},
		{"//a/* - " + numbered("//a/#", 0, api.MaxHoles), "//a/63", false},
		{"//a/* - " + numbered("//a/#", 0, api.MaxHoles), "//a/64", true},
		{"//a/* - " + numbered("//a/#", 0, api.MaxHoles+1), "//a/65", false},
	} {
		if Has(region(c.g), c.file) != c.want {
			t.Errorf("Has(%.200s, %.60s) is not %v", c.g, c.file, c.want)
		}
	}
	for _, list := range noRegions() {
		for _, g := range list {
			for _, file := range []string{"//a/z", "//a/z/y", "//a/b", patternText(g.Base), deep("a", "a", 12), deep("a", "a", 13)} {
				if Has(g, file) {
					t.Errorf("Has(%.200s, %s) is true", regionText(g), file)
				}
			}
		}
	}
}

// P5.1: all of some regions with all of some paths.
func TestHasSome(t *testing.T) {
	w := newWorld()
	for _, g := range someRegions([]string{"...", "*", "*a/...", "*/+", "a/ba", "*/*/*"}, 2) {
		s := w.within(g)
		for i, file := range w.files {
			if i%7 == 0 && Has(g, file) != (s[i/64]>>(i%64)&1 == 1) {
				t.Errorf("Has(%s, %s) is %v", regionText(g), file, Has(g, file))
			}
		}
	}
}

// isSimple reports whether the holes of a region are as P5.2 says: within the base, none within another one, sorted.
func isSimple(g api.Region) bool {
	for i, h := range g.Holes {
		if i > 0 && patternText(g.Holes[i-1]) >= patternText(h) {
			return false
		}
		if !pattern.Within(h, g.Base) {
			return false
		}
		for j, other := range g.Holes {
			if i != j && pattern.Within(h, other) {
				return false
			}
		}
	}
	return true
}

// P5.2 to P5.4: all of some regions, by their paths.
func TestSimplifyEmptyLeastSome(t *testing.T) {
	w := newWorld()
	list := someRegions(someEnds(), 2)
	list = append(list, someRegions([]string{"...", "*", "*a", "+", "*/...", "*/*", "*/*a", "+/*", "*/+", "a/ba", "*/*/..."}, 3)...)
	for _, g := range list {
		paths := w.within(g)
		x, e := Simplify(g)
		if e != api.OK || patternText(x.Base) != patternText(g.Base) || !isSimple(x) || !slices.Equal(w.within(x), paths) {
			t.Errorf("Simplify(%s) is %s, %d", regionText(g), regionText(x), e)
		}
		for _, h := range g.Holes {
			both, ok := pattern.Meet(g.Base, h)
			if ok && !slices.ContainsFunc(x.Holes, func(p api.Pattern) bool { return pattern.Within(both, p) }) {
				t.Errorf("Simplify(%s) is %s: it lacks %s", regionText(g), regionText(x), patternText(h))
			}
		}
		want := w.first(paths)
		if empty, e := Empty(g); empty != (want == "") || e != api.OK {
			t.Errorf("Empty(%s) is %v, %d", regionText(g), empty, e)
		}
		if s, ok, e := Least(g); s != want || ok != (want != "") || e != api.OK {
			t.Errorf("Least(%s) is %s, %v, %d, not %s", regionText(g), s, ok, e, want)
		}
	}
}

// P5.2: holes that are replaced, dropped and sorted.
func TestSimplify(t *testing.T) {
	for _, c := range []struct{ g, want string }{
		{"//a/*b - //a/* //c/d //a/xb", "//a/*b - //a/*b"},
		{"//a/b", "//a/b"},
		{"//a/b - //a/b", "//a/b - //a/b"},
		{"//a/b - //a/... //a/*", "//a/b - //a/b"},
		{"//a/b - //a/c //b/b //a/b/c //a/b/...", "//a/b"},
		{"//a/* - //a/x //a/x //a/x", "//a/* - //a/x"},
		{"//a/* - //a/x/... //a/*/x", "//a/*"},
		{"//a/*.x/... - //a/*/y //a/z/...", "//a/*.x/... - //a/*.x/y"},
		{"//a/*.x/... - //a/z.x/* //a/z.x/w //a/*y.x/w", "//a/*.x/... - //a/*y.x/w //a/z.x/*"},
		{"//a/... - //a/x/y //a/*/y //a/x/...", "//a/... - //a/*/y //a/x/..."},
		{"//a/... - //a/x/... //a/*/y //a/x/y", "//a/... - //a/*/y //a/x/..."},
		{"//a/... - //a/*/y //a/x/y //a/x/...", "//a/... - //a/*/y //a/x/..."},
		{"//a/... - //a/...", "//a/... - //a/..."},
		{"//a/b/... - //a/...", "//a/b/... - //a/b/..."},
		{"//a/* - //a/...", "//a/* - //a/*"},
		// The order is that of the texts, in which "-", "." and "+" stand ahead of "/", and "*" ahead of all of them.
		{"//a/... - //a/b/c //a/b-/c //a/b+/c //a/b.x/c //a/b0/c //a/B/c //a/_/c //a/* //a/b/...", "//a/... - //a/* //a/B/c //a/_/c //a/b+/c //a/b-/c //a/b.x/c //a/b/... //a/b0/c"},
		{"//a/... - //a/z/y/x //a/z/y //a/zz //a/y/...", "//a/... - //a/y/... //a/z/y //a/z/y/x //a/zz"},
		{"//a/... - //a/x //a/* //a/*x", "//a/... - //a/*"},
		{deep("a", "*", 11) + "/... - " + deep("a", "x", 11) + "/... " + deep("a", "*", 11), deep("a", "*", 11) + "/... - " + deep("a", "x", 11) + "/..."},
		{"//a/* - " + numbered("//a/#", 0, 64), "//a/* - " + numbered("//a/#", 0, 64)},
		{"//a/* - " + numbered("//a/#", 32, 32) + " " + numbered("//a/#", 0, 32), "//a/* - " + numbered("//a/#", 0, 64)},
		{"//a/* - " + numbered("//a/#", 0, 63) + " //a/*", "//a/* - //a/*"},
	} {
		if x, e := Simplify(region(c.g)); regionText(x) != c.want || e != api.OK {
			t.Errorf("Simplify(%s) is %s, %d", c.g, regionText(x), e)
		}
	}
}

// every lists the holes with each of the bytes of s in the place of "#".
func every(form, s string) string {
	var list []string
	for i := range len(s) {
		list = append(list, strings.ReplaceAll(form, "#", s[i:i+1]))
	}
	return strings.Join(list, " ")
}

// stairs lists the holes below //a with from to last parts "*" each.
func stairs(from, last int) string {
	var list []string
	for count := from; count <= last; count++ {
		list = append(list, deep("a", "*", count))
	}
	return strings.Join(list, " ")
}

// P5.3 and P5.4: numbers of components, and the order of the paths.
func TestEmptyAndLeast(t *testing.T) {
	long := deep("a", "*", 11) // twelve parts
	for _, c := range []struct{ g, want string }{
		{"//a/... - //a/* //a/*/...", ""},
		{"//a/*b - //a/*bb //a/cb", "//a/+b"},
		{"//a/... - //a/*", "//a/+/+"},
		{"//a/*/x - //a/+/... //a/-/*", "//a/0/x"},
		{"//a/b", "//a/b"},
		{"//a/b - //a/c //a/b/... //a/*b", "//a/b"},
		{"//a/b - //a/b", ""},
		{"//a/b - //a/*", ""},
		{"//a/b/...", "//a/b/+"},
		{"//a/b/... - //a/*/...", ""},
		{"//a/... - //a/...", ""},
		{"//a/*.x - //a/*.x", ""},
		{"//a/*.x - //a/*", ""},
		{"//a/*.x - //a/*b.x", "//a/+.x"},
		{"//a/*.x - //a/+.x //a/-.x", "//a/0.x"},
		// A Rest needs a component, and a path of as many components as there are parts does not match it.
		{"//a/... - //a/* //a/*/*/...", "//a/+/+"},
		{"//a/... - //a/* //a/*/* //a/*/*/...", ""},
		{"//a/... - //a/* //a/*/* //a/*/*/*/...", "//a/+/+/+"},
		{"//a/... - //a/*/... //a/*/*", "//a/+"},
		{"//a/*/... - //a/*/* //a/*/*/...", ""},
		{"//a/*/... - //a/*/* //a/*/*x/...", "//a/+/+/+"},
		{"//a/*/... - //a/*x/...", "//a/+/+"},
		// No hole is matched by all paths of a number, so that all holes together leave one.
		{"//a/... - //a/* //a/*x/... //a/*/*x //a/+/... //a/*/+", "//a/-/-"},
		{"//a/*/* - //a/+/* //a/*/+", "//a/-/-"},
		{"//a/*/* - //a/*/+ //a/+/- //a/+/0", "//a/+/1"},
		{"//a/*/* - //a/+/+ //a/+/-", "//a/+/0"},
		{"//a/*/*/* - //a/+/*/+ //a/+/+/*", "//a/+/-/-"},
		{"//a/*/*/* - //a/+/*/+ //a/*/+/- //a/*/+/0 //a/-/*/*", "//a/+/+/1"},
		{"//a/*/*/* - //a/+/-/* //a/+/+/* //a/-/... //a/0/*/+", "//a/+/0/+"},
		{"//a/*/b/* - //a/+/b/* //a/*/b/+", "//a/-/b/-"},
		{"//a/*/b/* - //a/+/*/* //a/*/c/+", "//a/-/b/+"},
		{"//a/*/*b - //a/*/+b //a/+/-b", "//a/+/0b"},
		{"//a/*/*b - //a/*/+b //a/*x/*b //a/+/*", "//a/-/-b"},
		// Components are ordered by length, then by bytes.
		{"//a/* - " + every("//a/#", firstBytes[:12]), "//a/A"},
		{"//a/* - " + every("//a/#", firstBytes[:38]), "//a/_"},
		{"//a/* - " + every("//a/#", firstBytes[:39]), "//a/a"},
		{"//a/*bc - //a/+bc //a/*xbc", "//a/-bc"},
		// 64 holes, of which none is matched by all paths.
		{"//a/* - " + every("//a/#", firstBytes[:64]), "//a/z"},
		{"//a/* - " + every("//a/#", firstBytes[1:]), "//a/+"},
		{"//a/*.x - " + every("//a/#.x", firstBytes[:64]), "//a/z.x"},
		{"//a/* - " + every("//a/*#", firstBytes[:64]), "//a/+"},
		{"//a/*/* - " + every("//a/#/*", firstBytes[:63]) + " //a/y/*", "//a/z/+"},
		{"//a/*/* - " + every("//a/*/#", firstBytes[:64]), "//a/+/z"},
		{"//a/*/* - " + every("//a/#/+", firstBytes[:64]), "//a/+/-"},
		{"//a/... - //a/* " + every("//a/*/#", firstBytes[:63]), "//a/+/y"},
		// The greatest numbers of parts.
		{long, deep("a", "+", 11)},
		{long + "/...", deep("a", "+", 12)},
		{long + "/... - " + deep("a", "*", 11), deep("a", "+", 12)},
		{long + "/... - " + deep("a", "*", 9) + "/...", ""},
		{long + "/... - " + deep("a", "*", 10) + "/+/... " + deep("a", "*", 9) + "/+/...", deep("a", "+", 9) + "/-/-/+"},
		{"//a/... - " + stairs(1, 11) + " " + long + "/...", ""},
		{"//a/... - " + stairs(1, 11), deep("a", "+", 12)},
		{"//a/... - " + stairs(1, 10) + " " + deep("a", "*", 10) + "/...", ""},
		{"//a/... - " + stairs(1, 10) + " " + long + "/...", deep("a", "+", 11)},
		{"//a/... - " + stairs(2, 11) + " " + long + "/...", "//a/+"},
		{"//a/... - " + stairs(1, 4) + " " + stairs(6, 11) + " " + long + "/...", deep("a", "+", 5)},
		{"//a/... - " + stairs(1, 11) + " " + deep("a", "*", 10) + "/*x/...", deep("a", "+", 12)},
	} {
		g := region(c.g)
		if empty, e := Empty(g); empty != (c.want == "") || e != api.OK {
			t.Errorf("Empty(%s) is %v, %d", c.g, empty, e)
		}
		s, ok, e := Least(g)
		if s != c.want || ok != (c.want != "") || e != api.OK {
			t.Errorf("Least(%s) is %s, %v, %d, not %s", c.g, s, ok, e, c.want)
		}
		if ok && !Has(g, s) {
			t.Errorf("Least(%s) is %s, which it does not have", c.g, s)
		}
	}
}

// P5.4: 64 holes leave each of the texts with a capture of one byte, if this one alone.
func TestLeastOfEachByte(t *testing.T) {
	for i := range len(firstBytes) {
		others := firstBytes[:i] + firstBytes[i+1:]
		for _, form := range []string{"//a/#", "//a/#s", "//a/b/#.x"} {
			s := strings.Replace(form, "#", "*", 1) + " - " + every(form, others)
			want := strings.Replace(form, "#", firstBytes[i:i+1], 1)
			if file, ok, e := Least(region(s)); file != want || !ok || e != api.OK {
				t.Errorf("Least(%s) is %s, %v, %d, not %s", s, file, ok, e, want)
			}
		}
	}
}

// P5.5: all pairs of some regions, by their paths.
func TestMeetSome(t *testing.T) {
	w := newWorld()
	for _, a := range pairable() {
		for _, b := range pairable() {
			both := w.within(a)
			for i, word := range w.within(b) {
				both[i] &= word
			}
			g, ok, e := Meet(a, b)
			if w.first(both) == "" {
				if regionText(g) != "" || ok || e != api.OK {
					t.Errorf("Meet(%s, %s) is %s, %v, %d", regionText(a), regionText(b), regionText(g), ok, e)
				}
				continue
			}
			base, _ := pattern.Meet(a.Base, b.Base)
			x, _ := Simplify(api.Region{Base: base, Holes: slices.Concat(b.Holes, a.Holes)})
			if !slices.Equal(w.within(g), both) || regionText(g) != regionText(x) || !ok || e != api.OK {
				t.Errorf("Meet(%s, %s) is %s, %v, %d", regionText(a), regionText(b), regionText(g), ok, e)
			}
		}
	}
}

// pairable lists the regions whose pairs are tested.
func pairable() []api.Region {
	list := someRegions([]string{"...", "*", "*a", "+", "*/...", "*/*a", "+/*", "*/*/..."}, 1)
	return append(list, someRegions([]string{"...", "*/*", "a/...", "*/+"}, 2)...)
}

func TestMeet(t *testing.T) {
	for _, c := range []struct {
		a, b, want string
		e          api.Errno
	}{
		{"//a/... - //a/b", "//a/* - //a/c", "//a/* - //a/b //a/c", api.OK},
		{"//a/... - //a/c", "//a/* - //a/b //a/c", "//a/* - //a/b //a/c", api.OK},
		{"//a/*.x - //a/b.x //a/c", "//a/*y.x/...", "", api.OK},
		{"//a/*.x - //a/b.x //a/c", "//a/*y.x", "//a/*y.x", api.OK},
		{"//a/*/... - //a/*/b", "//a/b/... - //a/*/...", "", api.OK},
		{"//a/b", "//a/c", "", api.OK},
		{"//a/... - //a/*", "//a/... - //a/*/...", "", api.OK},
		{"//a/b - //a/b", "//a/b", "", api.OK},
		{"//a/b", "//a/b - //a/b", "", api.OK},
		{"//a/... - //a/b/... //a/x", "//a/b/c - //a/y", "", api.OK},
		// The limit counts the holes that stay, also of what is empty.
		{"//a/... - " + numbered("//a/#", 0, 33), "//a/... - " + numbered("//a/#", 33, 32), "", api.ErrRegionLimit},
		{"//a/... - " + numbered("//a/#", 0, 33), "//a/... - " + numbered("//a/#", 32, 32), "//a/... - " + numbered("//a/#", 0, 64), api.OK},
		{"//a/... - " + numbered("//a/#", 0, 64), "//a/... - " + numbered("//a/#/b", 0, 64), "", api.ErrRegionLimit},
		{"//a/... - " + numbered("//a/#", 0, 64), "//a/... - " + numbered("//b/#", 0, 64), "//a/... - " + numbered("//a/#", 0, 64), api.OK},
		{"//a/... - " + numbered("//a/x#", 0, 64), "//a/... - //a/* " + numbered("//a/#/b", 0, 63), "//a/... - //a/* " + numbered("//a/#/b", 0, 63), api.OK},
		{"//a/* - " + numbered("//a/#/b", 0, 64), "//a/... - " + numbered("//a/#", 0, 64), "//a/* - " + numbered("//a/#", 0, 64), api.OK},
		{"//a/... - " + numbered("//a/#", 0, 64), "//a/*/... - " + numbered("//a/*/#", 0, 64), "//a/*/... - " + numbered("//a/*/#", 0, 64), api.OK},
		{"//a/... - " + numbered("//a/#/...", 0, 62), "//a/... - //a/* //a/*/* //a/*/*/...", "", api.ErrRegionLimit},
		{"//a/... - " + numbered("//a/#/...", 0, 61), "//a/... - //a/* //a/*/* //a/*/*/...", "", api.OK},
		{"//a/... - " + numbered("//a/#", 0, 64), "//b/... - " + numbered("//b/#", 0, 64), "", api.OK},
		{"//a/... - " + numbered("//a/#", 0, 64), "//a/... - " + numbered("//a/x#", 0, 63) + " //a/...", "", api.OK},
	} {
		a, b := region(c.a), region(c.b)
		if g, ok, e := Meet(a, b); regionText(g) != c.want || ok != (c.want != "") || e != c.e {
			t.Errorf("Meet(%s, %s) is %s, %v, %d", c.a, c.b, regionText(g), ok, e)
		}
		if g, ok, e := Meet(b, a); regionText(g) != c.want || ok != (c.want != "") || e != c.e {
			t.Errorf("Meet(%s, %s) is %s, %v, %d", c.b, c.a, regionText(g), ok, e)
		}
	}
}

// P5.6: all pairs of some regions, by their paths.
func TestMinusSome(t *testing.T) {
	w := newWorld()
	for _, a := range pairable() {
		for _, b := range pairable() {
			l, e := Minus(a, b)
			got := make([]uint64, len(w.within(a)))
			sound := e == api.OK
			for _, g := range l {
				paths := w.within(g)
				sound = sound && w.first(paths) != "" && isSimple(g)
				for i, word := range paths {
					sound = sound && got[i]&word == 0
					got[i] |= word
				}
			}
			want := w.within(a)
			for i, word := range w.within(b) {
				want[i] &^= word
			}
			if !sound || !slices.Equal(got, want) || !inOrder(a, b, l) {
				t.Errorf("Minus(%s, %s) is %q, %d", regionText(a), regionText(b), regionTexts(l), e)
			}
		}
	}
}

// inOrder reports whether the regions have the bases and the holes that P5.6 names, in its order.
func inOrder(a, b api.Region, l []api.Region) bool {
	b, _ = Simplify(b)
	candidates := []api.Region{{Base: a.Base, Holes: slices.Concat([]api.Pattern{b.Base}, a.Holes)}}
	for k, h := range b.Holes {
		if base, ok := pattern.Meet(h, a.Base); ok {
			candidates = append(candidates, api.Region{Base: base, Holes: slices.Concat(b.Holes[:k], a.Holes)})
		}
	}
	for _, g := range candidates {
		x, _ := Simplify(g)
		if len(l) > 0 && regionText(l[0]) == regionText(x) {
			l = l[1:]
		}
	}
	return len(l) == 0
}

func TestMinus(t *testing.T) {
	full := "//a/... - " + numbered("//a/#", 0, 64)
	for _, c := range []struct {
		a, b string
		want []string
		e    api.Errno
	}{
		{"//a/...", "//a/b/... - //a/b/*", []string{"//a/... - //a/b/...", "//a/b/*"}, api.OK},
		{"//a/...", "//a/...", nil, api.OK},
		{"//a/b", "//a/*", nil, api.OK},
		{"//a/b", "//a/* - //a/b", []string{"//a/b"}, api.OK},
		{"//a/b - //a/b", "//c/d", nil, api.OK},
		{"//a/... - //a/b", "//c/... - //c/d //a/c", []string{"//a/... - //a/b"}, api.OK},
		{"//a/* - //a/b //c/d", "//a/*/...", []string{"//a/* - //a/b"}, api.OK},
		{"//a/... - //a/* //a/*/...", "//a/b - //a/b", nil, api.OK},
		// The holes of b, simplified, come in their order, each without those ahead of it.
		{"//a/...", "//a/... - //a/y //a/x //a/*/x //a/x/*", []string{"//a/*/x", "//a/x", "//a/x/* - //a/x/x", "//a/y"}, api.OK},
		{"//a/...", "//a/*b - //a/* //a/xb", []string{"//a/... - //a/*b", "//a/*b"}, api.OK},
		{"//a/... - //a/x/...", "//a/... - //a/x/* //a/*/x //a/y", []string{"//a/*/x - //a/x/x", "//a/y"}, api.OK},
		{"//a/*/*", "//a/... - //a/*/*x //a/*y/x //a/*y/...", []string{"//a/*/*x", "//a/*y/* - //a/*y/*x"}, api.OK},
		{"//a/*/x", "//a/... - //a/*/* //a/y/...", []string{"//a/*/x"}, api.OK},
		{"//a/*.x - //a/b.x", "//a/* - //a/b.x //a/c.x //a/*d.x //a/d", []string{"//a/*d.x", "//a/c.x"}, api.OK},
		{"//a/* - //a/*y //a/z", "//a/* - //a/xy //a/z //a/*x", []string{"//a/*x"}, api.OK},
		// The limit counts the holes that stay in one of the regions, also in an empty one.
		{full, "//a/y", nil, api.ErrRegionLimit},
		{full, "//a/03", []string{full}, api.OK},
		{full, "//b/y", []string{full}, api.OK},
		{full, "//a/*", []string{"//a/... - //a/*"}, api.OK},
		{full, "//a/y - //a/y", nil, api.ErrRegionLimit},
		{"//a/... - " + numbered("//a/#", 0, 63), "//a/y", []string{"//a/... - " + numbered("//a/#", 0, 63) + " //a/y"}, api.OK},
		{"//a/... - //a/* //a/*/* //a/*/*/... " + numbered("//a/#/...", 0, 61), "//a/y/...", nil, api.ErrRegionLimit},
		{"//a/... - //a/* //a/*/* //a/*/*/... " + numbered("//a/#/...", 0, 60), "//a/y/...", nil, api.OK},
		// Here the region of the last hole of b is the one with too many: 32 of a, and of b one or two more than 32.
		{"//a/*/* - " + numbered("//a/*/#", 0, 32), "//a/*/* - //a/y/* " + numbered("//a/*/x#", 0, 33), nil, api.ErrRegionLimit},
		{"//a/*/* - " + numbered("//a/*/#", 0, 32), "//a/*/* - //a/y/* " + numbered("//a/*/x#", 0, 32), lastHoles(), api.OK},
		// What that region lacks it need not name if the bases are disjoint.
		{"//a/*z/* - " + numbered("//a/*z/#", 0, 32), "//a/*/* - //a/y/* " + numbered("//a/*/x#", 0, 33), numberedRegions("//a/*z/x#", 33), api.OK},
	} {
		if l, e := Minus(region(c.a), region(c.b)); !slices.Equal(regionTexts(l), c.want) || e != c.e {
			t.Errorf("Minus(%s, %s) is %q, %d", c.a, c.b, regionTexts(l), e)
		}
	}
}

// lastHoles lists the result of the last test of Minus within the limit.
func lastHoles() []string {
	return append(numberedRegions("//a/*/x#", 32), "//a/y/* - "+numbered("//a/y/#", 0, 32)+" "+numbered("//a/y/x#", 0, 32))
}

// numberedRegions lists count regions without holes.
func numberedRegions(form string, count int) []string {
	return strings.Fields(numbered(form, 0, count))
}

// roomy copies a region with spare capacity behind each of its lists, which holds what must not be changed.
func roomy(g api.Region) api.Region {
	spare := func(p api.Pattern) api.Pattern {
		return api.Pattern{Parts: append(slices.Clone(p.Parts), "spare", "spare")[:len(p.Parts)], Rest: p.Rest}
	}
	var holes []api.Pattern
	for _, h := range g.Holes {
		holes = append(holes, spare(h))
	}
	mark := api.Pattern{Parts: []string{"spare", "spare"}}
	return api.Region{Base: spare(g.Base), Holes: append(holes, mark, mark)[:len(holes)]}
}

// untouched reports whether a region that roomy made is that of the text still.
func untouched(g api.Region, s string) bool {
	lists := [][]string{g.Base.Parts}
	for _, h := range g.Holes {
		lists = append(lists, h.Parts)
	}
	for _, parts := range lists {
		if !slices.Equal(parts[len(parts):len(parts)+2], []string{"spare", "spare"}) {
			return false
		}
	}
	for _, h := range g.Holes[len(g.Holes) : len(g.Holes)+2] {
		if patternText(h) != "//spare/spare" {
			return false
		}
	}
	return regionText(g) == s
}

// spoil overwrites all that the lists of a region have room for.
func spoil(g api.Region) {
	parts := func(p api.Pattern) {
		for i := range p.Parts[:cap(p.Parts)] {
			p.Parts[:cap(p.Parts)][i] = "spoiled"
		}
	}
	parts(g.Base)
	for _, h := range g.Holes {
		parts(h)
	}
	for i := range g.Holes[:cap(g.Holes)] {
		g.Holes[:cap(g.Holes)][i] = api.Pattern{Parts: []string{"spoiled"}}
	}
}

// R4: arguments stay as they are, and results share no memory with them or with each other.
func TestMemory(t *testing.T) {
	texts := []string{"//a/... - //a/y //a/x/... //a/*/z //b/c", "//a/*/... - //a/*/z //a/x/*", "//a/...", "//a/x", "//a/... - //a/*/..."}
	for _, first := range texts {
		for _, second := range texts {
			a, b := roomy(region(first)), roomy(region(second))
			x, _ := Simplify(a)
			both, _, _ := Meet(a, b)
			list, _ := Minus(a, b)
			list = append(list, x, both)
			Check(a)
			Has(a, "//a/x")
			Empty(a)
			Least(a)
			want := regionTexts(list)
			for i, g := range list {
				if regionText(g) != want[i] {
					t.Errorf("%s and %s: result %d was changed to %s", first, second, i, regionText(g))
				}
				spoil(g)
			}
			if !untouched(a, first) || !untouched(b, second) {
				t.Errorf("%s and %s became %s and %s", first, second, regionText(a), regionText(b))
			}
		}
	}
}
