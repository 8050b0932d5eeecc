package pattern

import (
	"fmt"
	"regexp"
	"slices"
	"strings"
	"testing"

	"stockyard/api"
)

// The words of the chapter as regular expressions.
const (
	componentForm = `[A-Za-z0-9_+-][A-Za-z0-9_.+-]*`
	starForm      = `\*[A-Za-z0-9_.+-]*`
	partForm      = `(` + componentForm + `|` + starForm + `)`
	textForm      = `//` + componentForm + `((/` + partForm + `)+(/\.\.\.)?|/\.\.\.)`
)

func whole(form string) *regexp.Regexp {
	return regexp.MustCompile(`\A` + form + `\z`)
}

// partMatcher is the regular expression of the texts that a part matches, with the capture as a group.
func partMatcher(part string) string {
	if suffix, found := strings.CutPrefix(part, "*"); found {
		return `(` + componentForm + `)` + regexp.QuoteMeta(suffix)
	}
	return regexp.QuoteMeta(part)
}

// matcher is the regular expression of the paths that a pattern matches, with the captures as groups.
func matcher(p api.Pattern) *regexp.Regexp {
	form := "/"
	for _, part := range p.Parts {
		form += "/" + partMatcher(part)
	}
	if p.Rest {
		form += `/(` + componentForm + `(?:/` + componentForm + `)*)`
	}
	return whole(form)
}

// bindingMatcher is the regular expression of the captures that a binding allows.
func bindingMatcher(b api.Binding) *regexp.Regexp {
	var forms []string
	for _, part := range b.Parts {
		forms = append(forms, partMatcher(part))
	}
	if b.Rest {
		forms = append(forms, componentForm+`(?:/`+componentForm+`)*`)
	}
	return whole(strings.Join(forms, "/"))
}

// wordsOver lists the texts of at most most of the given bytes.
func wordsOver(bytes string, most int) []string {
	words := []string{""}
	for begin, length := 0, 1; length <= most; length++ {
		end := len(words)
		for _, w := range words[begin:end] {
			for i := range len(bytes) {
				words = append(words, w+bytes[i:i+1])
			}
		}
		begin = end
	}
	return words
}

func pat(rest bool, parts ...string) api.Pattern {
	return api.Pattern{Parts: parts, Rest: rest}
}

func bound(rest bool, parts ...string) api.Binding {
	return api.Binding{Parts: parts, Rest: rest}
}

func parsed(t *testing.T, s string) api.Pattern {
	t.Helper()
	p, e := Parse(s)
	if e != api.OK {
		t.Fatalf("Parse(%q): %d", s, e)
	}
	return p
}

func same(p, q api.Pattern) bool {
	return p.Rest == q.Rest && slices.Equal(p.Parts, q.Parts)
}

func sameBindings(l, m []api.Binding) bool {
	return slices.EqualFunc(l, m, func(b, c api.Binding) bool {
		return b.Rest == c.Rest && slices.Equal(b.Parts, c.Parts)
	})
}

func zero(p api.Pattern) bool {
	return len(p.Parts) == 0 && !p.Rest
}

// repeated returns the text of the part "a" and, behind it, count times part.
func repeated(part string, count int) string {
	return "//a" + strings.Repeat("/"+part, count)
}

// noPatterns lists what is no pattern, with the error of Check.
func noPatterns() map[api.Errno][]api.Pattern {
	many := slices.Repeat([]string{"a"}, api.MaxParts+1)
	return map[api.Errno][]api.Pattern{
		api.ErrPatternForm: {
			{}, pat(true), pat(false, "a"), pat(false, "*"), pat(true, "*"), pat(false, "*", "a"), pat(true, "*a", "b"),
			pat(false, "", "a"), pat(false, "a", ""), pat(true, ""), pat(true, "a", ""), pat(false, ".a", "b"), pat(false, "a", ".b"),
			pat(false, "a", "..."), pat(true, "..."), pat(true, "a", "..."), pat(false, "a", "."), pat(false, "a/b", "c"), pat(false, "a", "b/c"),
			pat(false, "a", "b*"), pat(false, "a", "**"), pat(false, "a", "*b*"), pat(false, "a", "b*c"), pat(false, "a", "*/b"), pat(false, "a", "* b"),
			pat(false, "a", " *"), pat(false, "a", "*\n"), pat(false, "a\n", "b"), pat(false, "a", "*\xff"), pat(false, "a", "ä"), pat(false, "a", "*ä"),
			pat(false, "a", "b", "c", "?"), pat(true, append(slices.Clone(many), "")...), pat(false, append([]string{"*"}, many...)...), pat(false, append(slices.Clone(many), "b*")...),
		},
		api.ErrPatternLimit: {
			pat(false, many...), pat(true, many...), pat(false, append(slices.Clone(many), "*.b", "*")...), pat(true, slices.Repeat(many, 100)...),
		},
	}
}

// somePatterns lists all patterns of at most three of a few parts.
func somePatterns() []api.Pattern {
	var list []api.Pattern
	for _, first := range []string{"a", "b"} {
		list = append(list, pat(true, first))
		for _, second := range []string{"a", "b", "ba", "*", "*a"} {
			list = append(list, pat(false, first, second), pat(true, first, second))
			for _, third := range []string{"a", "b", "ba", "*", "*a"} {
				list = append(list, pat(false, first, second, third), pat(true, first, second, third))
			}
		}
	}
	return list
}

// somePaths lists paths that tell any two of somePatterns apart: four components, and one text more than the parts name.
func somePaths() []string {
	var list []string
	row := []string{"//a", "//b"}
	for range 3 {
		var next []string
		for _, dir := range row {
			for _, name := range []string{"a", "b", "ba", "ca"} {
				next = append(next, dir+"/"+name)
			}
		}
		list = append(list, next...)
		row = next
	}
	return list
}

// matched says for each path whether the pattern matches it, by its regular expression.
func matched(p api.Pattern, files []string) []bool {
	form := matcher(p)
	list := make([]bool, len(files))
	for i, file := range files {
		list[i] = form.MatchString(file)
	}
	return list
}

// set is a pattern and what it matches.
type set struct {
	api.Pattern
	has []bool
}

func someSets() []set {
	files := somePaths()
	var list []set
	for _, p := range somePatterns() {
		list = append(list, set{p, matched(p, files)})
	}
	return list
}

// P3.1: all bytes as a first part, as a part, behind a byte of a part and behind a star.
func TestCheckOfEachByte(t *testing.T) {
	const later = "ABCDEFGHIJKLMNOPQRSTUVWXYZabcdefghijklmnopqrstuvwxyz0123456789_.+-"
	for c := range 256 {
		s := string([]byte{byte(c)})
		allowed := strings.Contains(later, s)
		for _, k := range []struct {
			p  api.Pattern
			ok bool
		}{
			{pat(true, s), allowed && s != "."},
			{pat(false, "a"+s, "b"), allowed},
			{pat(false, "a", s), allowed && s != "." || s == "*"},
			{pat(false, "a", "b"+s), allowed},
			{pat(false, "a", "*"+s), allowed},
			{pat(true, "a", "*.b"+s+"c"), allowed},
		} {
			want := api.ErrPatternForm
			if k.ok {
				want = api.OK
			}
			if e := Check(k.p); e != want {
				t.Errorf("Check(%q) is %d", k.p.Parts, e)
			}
		}
	}
}

func TestCheck(t *testing.T) {
	for want, list := range noPatterns() {
		for _, p := range list {
			if e := Check(p); e != want {
				t.Errorf("Check(%.60q, %v) is %d", p.Parts, p.Rest, e)
			}
			if s, e := Format(p); s != "" || e != want {
				t.Errorf("Format(%.60q, %v) is %q, %d", p.Parts, p.Rest, s, e)
			}
		}
	}
	for _, p := range []api.Pattern{
		pat(true, "a"), pat(false, "a", "b"), pat(false, "a", "*"), pat(true, "a", "*"), pat(false, "a", "*..."), pat(false, "-", "*-", "+.", "*.psd"),
		pat(false, slices.Repeat([]string{"a"}, api.MaxParts)...), pat(true, slices.Repeat([]string{"a"}, api.MaxParts)...), pat(false, strings.Repeat("x", 70000), "*"+strings.Repeat(".", 70000)),
	} {
		if e := Check(p); e != api.OK {
			t.Errorf("Check(%.60q, %v) is %d", p.Parts, p.Rest, e)
		}
	}
}

// P3.1: Parse accepts just the texts of patterns, and Format is its inverse.
func TestParseShortTexts(t *testing.T) {
	isText := whole(textForm)
	for _, w := range wordsOver("/.*a ", 6) {
		for _, s := range []string{w, "//" + w, "//a/" + w, "//a/b" + w} {
			p, e := Parse(s)
			if !isText.MatchString(s) {
				if e != api.ErrPatternForm || !zero(p) {
					t.Errorf("Parse(%q) is %q, %v, %d", s, p.Parts, p.Rest, e)
				}
				continue
			}
			body, rest := strings.CutSuffix(s, "/...")
			if e != api.OK || p.Rest != rest || !slices.Equal(p.Parts, strings.Split(body[2:], "/")) {
				t.Errorf("Parse(%q) is %q, %v, %d", s, p.Parts, p.Rest, e)
			}
			if back, e := Format(p); back != s || e != api.OK {
				t.Errorf("Format(%q, %v) is %q, %d", p.Parts, p.Rest, back, e)
			}
		}
	}
}

func TestParse(t *testing.T) {
	for _, c := range []struct {
		s string
		p api.Pattern
		e api.Errno
	}{
		{"//a/*.psd/...", pat(true, "a", "*.psd"), api.OK},
		{"//a/...", pat(true, "a"), api.OK},
		{"//a/*...", pat(false, "a", "*..."), api.OK},
		{"//a/*.../...", pat(true, "a", "*..."), api.OK},
		{repeated("b", 11), pat(false, append([]string{"a"}, slices.Repeat([]string{"b"}, 11)...)...), api.OK},
		{repeated("*", 11) + "/...", pat(true, append([]string{"a"}, slices.Repeat([]string{"*"}, 11)...)...), api.OK},
		{repeated("b", 12), api.Pattern{}, api.ErrPatternLimit},
		{repeated("b", 12) + "/...", api.Pattern{}, api.ErrPatternLimit},
		{repeated("*.b", 5000), api.Pattern{}, api.ErrPatternLimit},
		{repeated("b", 12) + "/", api.Pattern{}, api.ErrPatternForm},
		{repeated("b", 12) + "/b*", api.Pattern{}, api.ErrPatternForm},
		{repeated("b", 12) + "/.../...", api.Pattern{}, api.ErrPatternForm},
		{"//*" + strings.Repeat("/b", 12), api.Pattern{}, api.ErrPatternForm},
		{"//a", api.Pattern{}, api.ErrPatternForm},
		{"//*/b", api.Pattern{}, api.ErrPatternForm},
		{"//a/x*", api.Pattern{}, api.ErrPatternForm},
		{"//a/.../b", api.Pattern{}, api.ErrPatternForm},
		{"//...", api.Pattern{}, api.ErrPatternForm},
		{"//a/...x", api.Pattern{}, api.ErrPatternForm},
		{"//a...", api.Pattern{}, api.ErrPatternForm},
		{"", api.Pattern{}, api.ErrPatternForm},
		{"//", api.Pattern{}, api.ErrPatternForm},
		{"a/b", api.Pattern{}, api.ErrPatternForm},
		{"//a/b\n", api.Pattern{}, api.ErrPatternForm},
	} {
		if p, e := Parse(c.s); e != c.e || !same(p, c.p) {
			t.Errorf("Parse(%.60q) is %q, %v, %d", c.s, p.Parts, p.Rest, e)
		}
	}
}

// P3.2: all of some patterns with all of some paths.
func TestMatchAndFillSome(t *testing.T) {
	files := somePaths()
	for _, p := range somePatterns() {
		form := matcher(p)
		for _, file := range files {
			want := form.FindStringSubmatch(file)
			captures, ok := Match(p, file)
			if ok != (want != nil) || ok && !slices.Equal(captures, want[1:]) || !ok && len(captures) > 0 {
				t.Errorf("Match(%q, %v, %q) is %q, %v", p.Parts, p.Rest, file, captures, ok)
			}
			if !ok {
				continue
			}
			if s, e := Fill(p, captures); s != file || e != api.OK {
				t.Errorf("Fill(%q, %v, %q) is %q, %d", p.Parts, p.Rest, captures, s, e)
			}
		}
	}
}

// P3.2: all short suffixes with all short names.
func TestMatchShortNames(t *testing.T) {
	isName := whole(componentForm)
	names := slices.DeleteFunc(wordsOver("ab.", 4), func(s string) bool { return !isName.MatchString(s) })
	for _, suffix := range wordsOver("ab.", 3) {
		p := pat(false, "a", "*"+suffix)
		for _, name := range names {
			x, found := strings.CutSuffix(name, suffix)
			want := found && isName.MatchString(x)
			captures, ok := Match(p, "//a/"+name)
			if ok != want || ok && !slices.Equal(captures, []string{x}) || !ok && len(captures) > 0 {
				t.Errorf("Match(//a/*%s, //a/%s) is %q, %v", suffix, name, captures, ok)
			}
		}
	}
}

func TestMatch(t *testing.T) {
	deep := "//a" + strings.Repeat("/b", 5000)
	for _, c := range []struct {
		p, file string
		want    []string
		ok      bool
	}{
		{"//a/*.psd/...", "//a/x.psd/b/c", []string{"x", "b/c"}, true},
		{"//a/*.psd/...", "//a/x.psd", nil, false},
		{"//a/*.psd", "//a/.psd", nil, false},
		{"//a/*psd", "//a/psd", nil, false},
		{"//a/*.x", "//a/y.x.x", []string{"y.x"}, true},
		{"//a/b.c", "//a/b.c", nil, true},
		{"//a/b.c", "//a/b+c", nil, false},
		{"//a/b.c", "//a/B.c", nil, false},
		{"//a/...", deep, []string{deep[4:]}, true},
		{"//a/...", "//a", nil, false},
		{"//a/...", "//a/b/", nil, false},
		{"//a/...", "//a/b/.c", nil, false},
		{"//a/...", "//a/b/...", nil, false},
		{"//a/*", "//a/*", nil, false},
		{"//a/*", "//a/b c", nil, false},
		{"//a/*", "/a/b", nil, false},
		{"//a/*", "", nil, false},
	} {
		if got, ok := Match(parsed(t, c.p), c.file); ok != c.ok || !slices.Equal(got, c.want) {
			t.Errorf("Match(%s, %.60q) is %q, %v", c.p, c.file, got, ok)
		}
	}
	for _, list := range noPatterns() {
		for _, p := range list {
			for _, file := range []string{"//a/b", "//a" + strings.Repeat("/a", len(p.Parts)), "//" + strings.Join(p.Parts, "/"), ""} {
				if got, ok := Match(p, file); ok || len(got) > 0 {
					t.Errorf("Match(%.60q, %v, %.60q) is %q, %v", p.Parts, p.Rest, file, got, ok)
				}
			}
		}
	}
}

func TestFill(t *testing.T) {
	for _, c := range []struct {
		p string
		l []string
		s string
		e api.Errno
	}{
		{"//a/*.x/...", []string{"b", "c/d"}, "//a/b.x/c/d", api.OK},
		{"//a/*.x/...", []string{"b", "c" + strings.Repeat("/d", 40)}, "//a/b.x/c" + strings.Repeat("/d", 40), api.OK},
		{"//a/*/c/*.", []string{"b..", "-"}, "//a/b../c/-.", api.OK},
		{"//a/b", nil, "//a/b", api.OK},
		{"//a/b", []string{}, "//a/b", api.OK},
		{"//a/...", []string{"b"}, "//a/b", api.OK},
		{"//a/*.x/...", nil, "", api.ErrPatternCaptures},
		{"//a/*.x/...", []string{"b"}, "", api.ErrPatternCaptures},
		{"//a/*.x/...", []string{"b", "c", "d"}, "", api.ErrPatternCaptures},
		{"//a/*.x/...", []string{"b/c", "d"}, "", api.ErrPatternCaptures},
		{"//a/*.x/...", []string{"b", ""}, "", api.ErrPatternCaptures},
		{"//a/*.x/...", []string{"b", "/c"}, "", api.ErrPatternCaptures},
		{"//a/*.x/...", []string{"b", "c/"}, "", api.ErrPatternCaptures},
		{"//a/*.x/...", []string{"b", "c//d"}, "", api.ErrPatternCaptures},
		{"//a/*.x/...", []string{"b", "c/.d"}, "", api.ErrPatternCaptures},
		{"//a/*.x/...", []string{"b", ".c"}, "", api.ErrPatternCaptures},
		{"//a/*.x/...", []string{"b", "..."}, "", api.ErrPatternCaptures},
		{"//a/*.x/...", []string{"b", "c/*"}, "", api.ErrPatternCaptures},
		{"//a/*.x/...", []string{"b", "c d"}, "", api.ErrPatternCaptures},
		{"//a/*.x", []string{""}, "", api.ErrPatternCaptures},
		{"//a/*.x", []string{"."}, "", api.ErrPatternCaptures},
		{"//a/*.x", []string{".b"}, "", api.ErrPatternCaptures},
		{"//a/*.x", []string{"*b"}, "", api.ErrPatternCaptures},
		{"//a/*.x", []string{"b/c"}, "", api.ErrPatternCaptures},
		{"//a/*.x", []string{"b", "c"}, "", api.ErrPatternCaptures},
		{"//a/*/*", []string{"b", ".c"}, "", api.ErrPatternCaptures},
		{"//a/b", []string{""}, "", api.ErrPatternCaptures},
		{"//a/b", []string{"b"}, "", api.ErrPatternCaptures},
	} {
		if s, e := Fill(parsed(t, c.p), c.l); s != c.s || e != c.e {
			t.Errorf("Fill(%s, %q) is %q, %d", c.p, c.l, s, e)
		}
	}
	for want, list := range noPatterns() {
		for _, p := range list {
			for _, captures := range [][]string{nil, {"b"}, {"*"}} {
				if s, e := Fill(p, captures); s != "" || e != want {
					t.Errorf("Fill(%.60q, %v) is %q, %d", p.Parts, p.Rest, s, e)
				}
			}
		}
	}
}

// P3.3: the number and kinds of wildcards.
func TestKindsAndLiteral(t *testing.T) {
	for _, p := range somePatterns() {
		checkKinds(t, p)
	}
	for _, s := range []string{"//a/*/b/*.x/...", "//a/b.c", "//a/b/...", repeated("*", 11), repeated("*x", 11) + "/...", repeated("b", 11), repeated("b", 11) + "/..."} {
		checkKinds(t, parsed(t, s))
	}
	for want, list := range noPatterns() {
		for _, p := range list {
			if stars, rest, e := Kinds(p); stars != 0 || rest || e != want {
				t.Errorf("Kinds(%.60q, %v) is %d, %v, %d", p.Parts, p.Rest, stars, rest, e)
			}
			if s, ok := Literal(p); s != "" || ok {
				t.Errorf("Literal(%.60q, %v) is %q, %v", p.Parts, p.Rest, s, ok)
			}
		}
	}
}

func checkKinds(t *testing.T, p api.Pattern) {
	t.Helper()
	want := strings.Count(strings.Join(p.Parts, "/"), "*")
	if stars, rest, e := Kinds(p); stars != want || rest != p.Rest || e != api.OK {
		t.Errorf("Kinds(%q, %v) is %d, %v, %d", p.Parts, p.Rest, stars, rest, e)
	}
	wantText := ""
	if want == 0 && !p.Rest {
		wantText = "//" + strings.Join(p.Parts, "/")
	}
	if s, ok := Literal(p); s != wantText || ok != (wantText != "") {
		t.Errorf("Literal(%q, %v) is %q, %v", p.Parts, p.Rest, s, ok)
	}
}

// P3.4: all pairs of some patterns, by the paths that they match.
func TestMeetAndWithinSome(t *testing.T) {
	sets, files := someSets(), somePaths()
	for _, p := range sets {
		for _, q := range sets {
			both := make([]bool, len(files))
			for i := range files {
				both[i] = p.has[i] && q.has[i]
			}
			m, ok := Meet(p.Pattern, q.Pattern)
			if ok != slices.Contains(both, true) || !ok && !zero(m) {
				t.Errorf("Meet(%v, %v) is %v, %v", p.Pattern, q.Pattern, m, ok)
			}
			if ok && (Check(m) != api.OK || !slices.Equal(matched(m, files), both)) {
				t.Errorf("Meet(%v, %v) is %v", p.Pattern, q.Pattern, m)
			}
			if got := Within(p.Pattern, q.Pattern); got != slices.Equal(both, p.has) {
				t.Errorf("Within(%v, %v) is %v", p.Pattern, q.Pattern, got)
			}
		}
	}
}

func TestMeetAndWithin(t *testing.T) {
	long := repeated("b", 9) + "/*/*.c"
	for _, c := range []struct {
		p, q, want   string // want "": disjoint
		within, back bool
	}{
		{"//a/*/...", "//a/b.c/*d", "//a/b.c/*d", false, true},
		{"//a/*b", "//a/*c", "", false, false},
		{"//a/...", "//a/*", "//a/*", false, true},
		{"//a/*/*", "//a/...", "//a/*/*", true, false},
		{"//a/*.x/...", "//a/*/*.y/...", "//a/*.x/*.y/...", false, false},
		{"//a/*.x/...", "//a/*/*.y", "//a/*.x/*.y", false, false},
		{"//a/...", "//a/...", "//a/...", true, true},
		{"//a/b/...", "//a/b", "", false, false},
		{"//a/b/...", "//a/b/c", "//a/b/c", false, true},
		{"//a/...", long, long, false, true},
		{long, long + "/...", "", false, false},
		{"//a/...", long + "/...", long + "/...", false, true},
	} {
		p, q := parsed(t, c.p), parsed(t, c.q)
		for _, pair := range [][2]api.Pattern{{p, q}, {q, p}} {
			m, ok := Meet(pair[0], pair[1])
			s, _ := Format(m)
			if ok != (c.want != "") || s != c.want || !ok && !zero(m) {
				t.Errorf("Meet(%s, %s) is %q, %v", c.p, c.q, s, ok)
			}
		}
		if got, back := Within(p, q), Within(q, p); got != c.within || back != c.back {
			t.Errorf("Within(%s, %s) is %v, and back %v", c.p, c.q, got, back)
		}
	}
}

// No function of two patterns takes something else for one.
func TestPairsWithNoPattern(t *testing.T) {
	good := []api.Pattern{pat(true, "a"), pat(false, "a", "*"), pat(true, "a", "a")}
	for _, list := range noPatterns() {
		for _, bad := range list {
			for _, p := range append(good, bad) {
				for _, pair := range [][2]api.Pattern{{p, bad}, {bad, p}} {
					if m, ok := Meet(pair[0], pair[1]); ok || !zero(m) {
						t.Errorf("Meet(%.60v, %.60v) is %v, %v", pair[0], pair[1], m, ok)
					}
					if Within(pair[0], pair[1]) {
						t.Errorf("Within(%.60v, %.60v)", pair[0], pair[1])
					}
					if l, ok := Bind(pair[0], pair[1]); ok || len(l) > 0 {
						t.Errorf("Bind(%.60v, %.60v) is %v, %v", pair[0], pair[1], l, ok)
					}
				}
			}
		}
	}
}

// P3.5: the captures of the paths of q are those that the bindings allow, and Substitute gives q again.
func TestBindSome(t *testing.T) {
	sets, files := someSets(), somePaths()
	for _, p := range sets {
		for _, q := range sets {
			l, ok := Bind(p.Pattern, q.Pattern)
			if ok != Within(q.Pattern, p.Pattern) || !ok && len(l) > 0 {
				t.Errorf("Bind(%v, %v) is %v, %v", p.Pattern, q.Pattern, l, ok)
			}
			if !ok {
				continue
			}
			if got := allowed(p.Pattern, l, files); !slices.Equal(got, q.has) {
				t.Errorf("Bind(%v, %v) is %v", p.Pattern, q.Pattern, l)
			}
			if back, e := Substitute(p.Pattern, l); e != api.OK || !same(back, q.Pattern) {
				t.Errorf("Substitute(%v, %v) is %v, %d", p.Pattern, l, back, e)
			}
		}
	}
}

// allowed says which paths match p with captures that match the bindings; none do if the lists do not fit.
func allowed(p api.Pattern, l []api.Binding, files []string) []bool {
	form := matcher(p)
	has := make([]bool, len(files))
	if form.NumSubexp() != len(l) {
		return nil
	}
	var forms []*regexp.Regexp
	for _, b := range l {
		forms = append(forms, bindingMatcher(b))
	}
	for i, file := range files {
		captures := form.FindStringSubmatch(file)
		has[i] = captures != nil
		for k, capture := range captures {
			if k > 0 && !forms[k-1].MatchString(capture) {
				has[i] = false
			}
		}
	}
	return has
}

func TestBind(t *testing.T) {
	for _, c := range []struct {
		p, q string
		want []api.Binding
		ok   bool
	}{
		{"//a/*.x/...", "//a/b.x/*c/...", []api.Binding{bound(false, "b"), bound(true, "*c")}, true},
		{"//a/*.x/...", "//a/*.y.x/d", []api.Binding{bound(false, "*.y"), bound(false, "d")}, true},
		{"//a/*.x/...", "//a/*.x/...", []api.Binding{bound(false, "*"), bound(true)}, true},
		{"//a/...", "//a/*/b/*", []api.Binding{bound(false, "*", "b", "*")}, true},
		{"//a/...", repeated("*", 11) + "/...", []api.Binding{bound(true, slices.Repeat([]string{"*"}, 11)...)}, true},
		{"//a/b", "//a/b", nil, true},
		{"//a/*.x", "//a/*", nil, false},
		{"//a/*.x", "//a/*.x/...", nil, false},
		{"//a/*.x", "//a/x", nil, false},
		{"//a/b", "//a/c", nil, false},
		{"//a/b", "//a/*", nil, false},
		{"//a/*/...", "//a/...", nil, false},
	} {
		if l, ok := Bind(parsed(t, c.p), parsed(t, c.q)); ok != c.ok || !sameBindings(l, c.want) {
			t.Errorf("Bind(%s, %s) is %v, %v", c.p, c.q, l, ok)
		}
	}
}

// P3.6: all of some patterns with all of some bindings.
func TestSubstituteSome(t *testing.T) {
	files := somePaths()
	ones := []api.Binding{bound(false, "b"), bound(false, "c"), bound(false, "ba"), bound(false, "*"), bound(false, "*b")}
	rests := append([]api.Binding{bound(true), bound(true, "b"), bound(true, "*a"), bound(false, "*a", "b")}, ones...)
	for _, p := range somePatterns() {
		stars, rest, _ := Kinds(p)
		if stars > 2 {
			continue
		}
		lists := [][]api.Binding{nil}
		for range stars {
			lists = extended(lists, ones)
		}
		if rest {
			lists = extended(lists, rests)
		}
		for _, l := range lists {
			q, e := Substitute(p, l)
			if e != api.OK || Check(q) != api.OK || !slices.Equal(matched(q, files), allowed(p, l, files)) {
				t.Errorf("Substitute(%v, %v) is %v, %d", p, l, q, e)
			}
		}
	}
}

// extended appends each of the bindings to each of the lists.
func extended(lists [][]api.Binding, bindings []api.Binding) [][]api.Binding {
	var out [][]api.Binding
	for _, l := range lists {
		for _, b := range bindings {
			out = append(out, append(slices.Clone(l), b))
		}
	}
	return out
}

func TestSubstitute(t *testing.T) {
	ten := repeated("b", 9)
	for _, c := range []struct {
		p    string
		l    []api.Binding
		want string
		e    api.Errno
	}{
		{"//z/*-old", []api.Binding{bound(false, "*.x")}, "//z/*.x-old", api.OK},
		{"//z/*-old", []api.Binding{bound(false, "y")}, "//z/y-old", api.OK},
		{"//z/*-old", []api.Binding{bound(false, "*")}, "//z/*-old", api.OK},
		{"//z/*/y/*.x/...", []api.Binding{bound(false, "*a"), bound(false, "b"), bound(true, "*", "d")}, "//z/*a/y/b.x/*/d/...", api.OK},
		{"//z/...", []api.Binding{bound(true)}, "//z/...", api.OK},
		{"//z/y", nil, "//z/y", api.OK},
		{ten + "/...", []api.Binding{bound(true, "c", "d")}, ten + "/c/d/...", api.OK},
		{ten + "/...", []api.Binding{bound(false, "c", "*")}, ten + "/c/*", api.OK},
		{ten + "/...", []api.Binding{bound(false, "c", "d", "e")}, "", api.ErrPatternLimit},
		{ten + "/...", []api.Binding{bound(true, "c", "d", "*")}, "", api.ErrPatternLimit},
		{ten + "/b/b/...", []api.Binding{bound(true)}, ten + "/b/b/...", api.OK},
		{ten + "/b/b/...", []api.Binding{bound(true, "b")}, "", api.ErrPatternLimit},
		{ten + "/b/b/...", []api.Binding{bound(false, "b")}, "", api.ErrPatternLimit},
		{"//z/...", []api.Binding{bound(false, slices.Repeat([]string{"b"}, 5000)...)}, "", api.ErrPatternLimit},
		{"//z/...", []api.Binding{bound(false, append(slices.Repeat([]string{"b"}, 5000), "...")...)}, "", api.ErrPatternBinding},
		{ten + "/...", []api.Binding{bound(false, "c", "d", "/")}, "", api.ErrPatternBinding},
		{"//z/...", nil, "", api.ErrPatternBinding},
		{"//z/...", []api.Binding{{}}, "", api.ErrPatternBinding},
		{"//z/...", []api.Binding{bound(false, "")}, "", api.ErrPatternBinding},
		{"//z/...", []api.Binding{bound(true, ".b")}, "", api.ErrPatternBinding},
		{"//z/...", []api.Binding{bound(true, "...")}, "", api.ErrPatternBinding},
		{"//z/...", []api.Binding{bound(true, "b*")}, "", api.ErrPatternBinding},
		{"//z/...", []api.Binding{bound(false, "b/c")}, "", api.ErrPatternBinding},
		{"//z/...", []api.Binding{bound(true), bound(true)}, "", api.ErrPatternBinding},
		{"//z/*", nil, "", api.ErrPatternBinding},
		{"//z/*", []api.Binding{{}}, "", api.ErrPatternBinding},
		{"//z/*", []api.Binding{bound(true)}, "", api.ErrPatternBinding},
		{"//z/*", []api.Binding{bound(true, "b")}, "", api.ErrPatternBinding},
		{"//z/*", []api.Binding{bound(false, "b", "c")}, "", api.ErrPatternBinding},
		{"//z/*", []api.Binding{bound(false, "")}, "", api.ErrPatternBinding},
		{"//z/*", []api.Binding{bound(false, ".b")}, "", api.ErrPatternBinding},
		{"//z/*", []api.Binding{bound(false, "**")}, "", api.ErrPatternBinding},
		{"//z/*", []api.Binding{bound(false, "b"), bound(false, "c")}, "", api.ErrPatternBinding},
		{"//z/*/*", []api.Binding{bound(false, "b"), bound(false, "c d")}, "", api.ErrPatternBinding},
		{"//z/*/...", []api.Binding{bound(true), bound(false, "b")}, "", api.ErrPatternBinding},
		{"//z/*/...", []api.Binding{bound(false, "b")}, "", api.ErrPatternBinding},
		{"//z/y", []api.Binding{bound(false, "b")}, "", api.ErrPatternBinding},
		{"//z/y", []api.Binding{{}}, "", api.ErrPatternBinding},
	} {
		q, e := Substitute(parsed(t, c.p), c.l)
		s, _ := Format(q)
		if e != c.e || s != c.want || e != api.OK && !zero(q) {
			t.Errorf("Substitute(%s, %.80v) is %q, %d", c.p, c.l, s, e)
		}
	}
	for want, list := range noPatterns() {
		for _, p := range list {
			for _, l := range [][]api.Binding{nil, {bound(true)}, {bound(false, "b")}, {bound(false, "*")}, {{}}} {
				if q, e := Substitute(p, l); e != want || !zero(q) {
					t.Errorf("Substitute(%.60v, %v) is %v, %d", p, l, q, e)
				}
			}
		}
	}
}

// lies says for two parts what P3.7 says: whether the texts of narrow are texts of wide.
func lies(narrow, wide string) bool {
	suffix, found := strings.CutPrefix(wide, "*")
	return narrow == wide || found && strings.HasSuffix(narrow, suffix) && len(narrow) > len(suffix)
}

// P3.7: any two parts are disjoint, or one lies within the other.
func TestPartsAreNested(t *testing.T) {
	isPart := whole(partForm)
	parts := slices.DeleteFunc(wordsOver("*ab.", 4), func(s string) bool { return !isPart.MatchString(s) })
	for _, a := range parts {
		for _, b := range parts {
			p, q := pat(false, "d", a), pat(false, "d", b)
			inner, outer := lies(a, b), lies(b, a)
			if Within(p, q) != inner || Within(q, p) != outer {
				t.Errorf("Within(%s, %s) is %v, and back %v", a, b, Within(p, q), Within(q, p))
			}
			m, ok := Meet(p, q)
			if ok != (inner || outer) || inner && !same(m, p) || outer && !same(m, q) {
				t.Errorf("Meet(%s, %s) is %v, %v", a, b, m, ok)
			}
		}
	}
}

// pieces returns the 131 sets of P3.7 that make up the set of "*s".
func pieces(s string) []api.Pattern {
	const later = "ABCDEFGHIJKLMNOPQRSTUVWXYZabcdefghijklmnopqrstuvwxyz0123456789_+-."
	var list []api.Pattern
	for i, c := range later {
		if i < len(later)-1 {
			list = append(list, pat(false, "d", string(c)+s))
		}
		list = append(list, pat(false, "d", "*"+string(c)+s))
	}
	return list
}

// P3.7: each part that lies properly within "*s" lies within just one of 131 disjoint ones, so that 130 are too few.
func TestPiecesOfAStar(t *testing.T) {
	for _, s := range []string{"", "a", ".psd"} {
		list := pieces(s)
		if len(list) != 131 {
			t.Fatalf("there are %d pieces", len(list))
		}
		star := pat(false, "d", "*"+s)
		for i, p := range list {
			if !Within(p, star) || Within(star, p) {
				t.Errorf("%v does not lie properly within %v", p, star)
			}
			for _, q := range list[:i] {
				if m, ok := Meet(p, q); ok {
					t.Errorf("%v and %v meet in %v", p, q, m)
				}
			}
		}
		for _, w := range wordsOver("ab.", 4) {
			checkPieces(t, list, star, w+s)
			checkPieces(t, list, star, "*"+w+s)
		}
	}
}

func checkPieces(t *testing.T, list []api.Pattern, star api.Pattern, part string) {
	t.Helper()
	p := pat(false, "d", part)
	within, matches := 0, 0
	for _, q := range list {
		if Within(p, q) {
			within++
		}
		if _, ok := Match(q, "//d/"+part); ok {
			matches++
		}
	}
	want, wantMatches := 0, 0
	if Within(p, star) && !same(p, star) {
		want = 1
	}
	if _, ok := Match(star, "//d/"+part); ok {
		wantMatches = 1
	}
	if within != want || matches != wantMatches {
		t.Errorf("%q lies within %d pieces, and %d match it", part, within, matches)
	}
}

// spare returns a list with the given elements that is followed by others in its memory.
func spare(l ...string) []string {
	return append(append(make([]string, 0, len(l)+3), l...), "x", "y", "z")[:len(l)]
}

// overwrite changes a list and appends to it, which changes what shares its memory.
func overwrite(l []string) {
	for i := range l {
		l[i] = "?"
	}
	_ = append(l, "?", "?")
}

// R4: results are new memory, and arguments stay as they are, as far as their memory goes.
func TestMemory(t *testing.T) {
	p := api.Pattern{Parts: spare("a", "*.x"), Rest: true}
	q := api.Pattern{Parts: spare("a", "*.y.x", "b", "c"), Rest: true}
	bindings := append(make([]api.Binding, 0, 3), bound(false, "b"), api.Binding{Parts: spare("c", "d"), Rest: true})
	captures := spare("b", "c/d")
	before := fmt.Sprint(p.Parts[:5], q.Parts[:7], bindings[:3], bindings[1].Parts[:5], captures[:5])
	for range 2 {
		m, ok := Meet(p, q)
		n, also := Meet(q, q)
		if !ok || !also || !same(m, q) || !same(n, q) {
			t.Fatalf("Meet is %v, %v and %v, %v", m, ok, n, also)
		}
		overwrite(m.Parts)
		overwrite(n.Parts)
		l, ok := Bind(p, q)
		if !ok || !sameBindings(l, []api.Binding{bound(false, "*.y"), bound(true, "b", "c")}) {
			t.Fatalf("Bind is %v, %v", l, ok)
		}
		overwrite(l[0].Parts)
		if !slices.Equal(l[1].Parts, []string{"b", "c"}) {
			t.Error("the bindings share memory")
		}
		overwrite(l[1].Parts)
		s, e := Substitute(p, bindings)
		if e != api.OK || !same(s, pat(true, "a", "b.x", "c", "d")) {
			t.Fatalf("Substitute is %v, %d", s, e)
		}
		overwrite(s.Parts)
		s, e = Substitute(pat(true, "a"), []api.Binding{bindings[1]})
		if e != api.OK || !same(s, pat(true, "a", "c", "d")) {
			t.Fatalf("Substitute is %v, %d", s, e)
		}
		overwrite(s.Parts)
		if text, e := Fill(p, captures); text != "//a/b.x/c/d" || e != api.OK {
			t.Fatalf("Fill is %q, %d", text, e)
		}
		got, ok := Match(p, "//a/b.x/c")
		if !ok || !slices.Equal(got, []string{"b", "c"}) {
			t.Fatalf("Match is %q, %v", got, ok)
		}
		overwrite(got)
	}
	if after := fmt.Sprint(p.Parts[:5], q.Parts[:7], bindings[:3], bindings[1].Parts[:5], captures[:5]); after != before {
		t.Errorf("the arguments were %s and are %s", before, after)
	}
}
