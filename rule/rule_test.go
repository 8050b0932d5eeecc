package rule

import (
	"regexp"
	"slices"
	"strings"
	"testing"

	"stockyard/api"
	"stockyard/pattern"
)

const componentForm = `[A-Za-z0-9_+-][A-Za-z0-9_.+-]*`

// matcher is the regular expression of the paths that a pattern matches, with the captures as groups.
func matcher(p api.Pattern) *regexp.Regexp {
	form := `\A/`
	for _, part := range p.Parts {
		if suffix, found := strings.CutPrefix(part, "*"); found {
			form += `/(` + componentForm + `)` + regexp.QuoteMeta(suffix)
		} else {
			form += `/` + regexp.QuoteMeta(part)
		}
	}
	if p.Rest {
		form += `/(` + componentForm + `(?:/` + componentForm + `)*)`
	}
	return regexp.MustCompile(form + `\z`)
}

// filled is the path of a pattern with these captures.
func filled(p api.Pattern, captures []string) string {
	s := "/"
	for _, part := range p.Parts {
		if suffix, found := strings.CutPrefix(part, "*"); found {
			part, captures = captures[0]+suffix, captures[1:]
		}
		s += "/" + part
	}
	return strings.Join(append([]string{s}, captures...), "/")
}

// related is the path to which a line relates a left path, and empty if there is none.
func related(left *regexp.Regexp, r api.Rule, file string) string {
	found := left.FindStringSubmatch(file)
	if found == nil {
		return ""
	}
	return filled(r.Right, found[1:])
}

// relatedAll is related for each of the paths.
func relatedAll(r api.Rule, files []string) []string {
	left := matcher(r.Left)
	list := make([]string, len(files))
	for i, file := range files {
		list[i] = related(left, r, file)
	}
	return list
}

func parsed(t *testing.T, s string) api.Pattern {
	t.Helper()
	p, e := pattern.Parse(s)
	if e != api.OK {
		t.Fatalf("Parse(%q): %d", s, e)
	}
	return p
}

// line reads a line from the texts of its sides with " > " between them.
func line(t *testing.T, s string) api.Rule {
	t.Helper()
	left, right, _ := strings.Cut(s, " > ")
	return api.Rule{Left: parsed(t, left), Right: parsed(t, right)}
}

func lines(t *testing.T, texts ...string) []api.Rule {
	t.Helper()
	var list []api.Rule
	for _, s := range texts {
		list = append(list, line(t, s))
	}
	return list
}

func patternText(p api.Pattern) string {
	s := "//" + strings.Join(p.Parts, "/")
	if p.Rest {
		s += "/..."
	}
	return s
}

func text(r api.Rule) string {
	s := patternText(r.Left) + " > " + patternText(r.Right)
	if r.Exclude {
		s = "-" + s
	}
	return s
}

// none is the text of the zero line, and nothing that of the zero pattern.
const (
	nothing = "//"
	none    = nothing + " > " + nothing
)

// someFiles lists the paths below //r of one to four components of some names, which tell all that becomes of someLines
// apart.
func someFiles() []string {
	var list []string
	row := []string{"//r"}
	for range 4 {
		var next []string
		for _, dir := range row {
			for _, name := range []string{"a", "b", "aa", "ba", "baa", "caa", "c"} {
				next = append(next, dir+"/"+name)
			}
		}
		list = append(list, next...)
		row = next
	}
	return list
}

// someLines lists all lines whose left sides are below //r and whose sides are among some patterns.
func someLines(t *testing.T, ends []string) []api.Rule {
	t.Helper()
	var list []api.Rule
	for _, left := range ends {
		for _, right := range ends {
			if strings.Count(left, "*") == strings.Count(right, "*") && strings.HasSuffix(left, "...") == strings.HasSuffix(right, "...") {
				list = append(list, line(t, "//r/"+left+" > //r/"+right))
			}
		}
	}
	return list
}

func someEnds() []string {
	return []string{
		"...", "a/...", "b/...", "*", "*a", "a", "ba", "b/*", "*/a", "*/*", "*/*a", "*a/*", "a/b", "*/b/a",
		"a/*/...", "*/...", "*a/...", "*/a/...", "*/*/...", "*/ba/*", "*/*/*a",
	}
}

// repeated returns the text of count parts, behind the given one.
func repeated(first, part string, count int) string {
	return "//" + first + strings.Repeat("/"+part, count)
}

// noLines lists what is no line, with the error of Check.
func noLines(t *testing.T) map[api.Errno][]api.Rule {
	t.Helper()
	good := []api.Pattern{parsed(t, "//d/*.x/..."), parsed(t, "//d/e")}
	many := slices.Repeat([]string{"a"}, api.MaxParts+1)
	bad := []api.Pattern{
		{}, {Rest: true}, {Parts: []string{"a"}}, {Parts: []string{"*", "a"}}, {Parts: []string{"a", "b*"}, Rest: true},
		{Parts: []string{"a", ""}}, {Parts: []string{"a", "..."}}, {Parts: many}, {Parts: many, Rest: true},
	}
	list := map[api.Errno][]api.Rule{api.ErrRuleKinds: lines(t,
		"//d/... > //c/*", "//d/* > //c/...", "//d/* > //c/d", "//d/e > //c/*", "//d/*/* > //c/*", "//d/* > //c/*/*", "//d/... > //c/d", "//d/e > //c/...",
		"//d/*/... > //c/*/*", "//d/*/* > //c/*/...", "//d/*/... > //c/...", "//d/... > //c/*/...", "//d/*/*/*/... > //c/*/*/e/...",
	)}
	for _, p := range bad {
		for _, q := range good {
			list[api.ErrRuleLeft] = append(list[api.ErrRuleLeft], api.Rule{Left: p, Right: q})
			list[api.ErrRuleRight] = append(list[api.ErrRuleRight], api.Rule{Left: q, Right: p})
		}
		for _, q := range bad {
			list[api.ErrRuleLeft] = append(list[api.ErrRuleLeft], api.Rule{Left: p, Right: q})
		}
	}
	return list
}

// P4.1: the errors of Check, and lines that have none.
func TestCheck(t *testing.T) {
	for want, list := range noLines(t) {
		for _, r := range list {
			for _, r.Exclude = range []bool{false, true} {
				if e := Check(r); e != want {
					t.Errorf("Check(%s) is %d, not %d", text(r), e, want)
				}
			}
		}
	}
	for _, s := range []string{
		"//d/e > //c/d", "//d/* > //c/x/*.y", "//d/... > //c/...", "//d/x/... > //c/...", "//d/*.psd/... > //c/x/*/...", "//d/*/a/*/b > //c/*.x/*",
		repeated("d", "*", 11) + " > " + repeated("c", "*.x", 11), repeated("d", "*", 11) + "/... > " + repeated("c", "*", 11) + "/...",
		"//d/e > " + repeated("c", "d", 11),
	} {
		r := line(t, s)
		for _, r.Exclude = range []bool{false, true} {
			if e := Check(r); e != api.OK {
				t.Errorf("Check(%s) is %d", text(r), e)
			}
		}
	}
}

// P4.1: Turn exchanges the sides of lines and of what is none.
func TestTurn(t *testing.T) {
	list := someLines(t, someEnds())
	for _, bad := range noLines(t) {
		list = append(list, bad...)
	}
	for _, r := range list {
		for _, r.Exclude = range []bool{false, true} {
			got := Turn(r)
			if got.Exclude != r.Exclude || patternText(got.Left) != patternText(r.Right) || patternText(got.Right) != patternText(r.Left) {
				t.Errorf("Turn(%s) is %s", text(r), text(got))
			}
		}
	}
}

// P4.2: all of some lines with all of some paths.
func TestForwardAndBackwardSome(t *testing.T) {
	files := someFiles()
	for _, r := range someLines(t, someEnds()) {
		for i, want := range relatedAll(r, files) {
			if s, ok := Forward(r, files[i]); s != want || ok != (want != "") {
				t.Errorf("Forward(%s, %s) is %q, %v", text(r), files[i], s, ok)
			}
		}
		turned := api.Rule{Left: r.Right, Right: r.Left}
		for i, want := range relatedAll(turned, files) {
			if s, ok := Backward(r, files[i]); s != want || ok != (want != "") {
				t.Errorf("Backward(%s, %s) is %q, %v", text(r), files[i], s, ok)
			}
		}
	}
}

func TestForwardAndBackward(t *testing.T) {
	deep := strings.Repeat("/b", 5000)
	for _, c := range []struct {
		r, left, right string
		ok             bool // whether they are related
	}{
		{"//d/*.psd/... > //c/x/*/...", "//d/a.psd/b", "//c/x/a/b", true},
		{"//d/*.psd/... > //c/x/*/...", "//d/a.psd/b/c.d", "//c/x/a/b/c.d", true},
		{"//d/*.psd/... > //c/x/*/...", "//d/.psd/b", "//c/x//b", false},
		{"//d/*.psd/... > //c/x/*/...", "//d/a.psd", "//c/x/a", false},
		{"//d/... > //c/e/...", "//d" + deep, "//c/e" + deep, true},
		{"//d/... > //c/e/...", "//d/", "//c/e/", false},
		{"//d/... > //c/e/...", "//d/.x", "//c/e/.x", false},
		{"//d/... > //c/e/...", "//d/...", "//c/e/...", false},
		{"//d/* > //c/*", "//d/*", "//c/*", false},
		{"//d/* > //c/*", "//d/a/b", "//c/a/b", false},
		{"//d/* > //c/*", "d/a", "c/a", false},
		{"//d/* > //c/*", "", "", false},
		{"//d/e > //c/d", "//d/e", "//c/d", true},
		{"//d/e > //c/d", "//d/d", "//c/e", false},
	} {
		for _, exclude := range []bool{false, true} {
			r := line(t, c.r)
			r.Exclude = exclude
			wantLeft, wantRight := c.left, c.right
			if !c.ok {
				wantLeft, wantRight = "", ""
			}
			if s, ok := Forward(r, c.left); s != wantRight || ok != c.ok {
				t.Errorf("Forward(%s, %.60q) is %.60q, %v", text(r), c.left, s, ok)
			}
			if s, ok := Backward(r, c.right); s != wantLeft || ok != c.ok {
				t.Errorf("Backward(%s, %.60q) is %.60q, %v", text(r), c.right, s, ok)
			}
		}
	}
	for _, list := range noLines(t) {
		for _, r := range list {
			for _, file := range []string{"//d/e", "//d/y.x/z", "//c/d", "//a/b", patternText(r.Left), patternText(r.Right), repeated("a", "a", 12)} {
				if s, ok := Forward(r, file); s != "" || ok {
					t.Errorf("Forward(%s, %s) is %q, %v", text(r), file, s, ok)
				}
				if s, ok := Backward(r, file); s != "" || ok {
					t.Errorf("Backward(%s, %s) is %q, %v", text(r), file, s, ok)
				}
			}
		}
	}
}

// isLine reports whether the result of a call is a line, and said to be one, exactly if there is to be one.
func isLine(r api.Rule, ok bool, e api.Errno, want bool) bool {
	if !want {
		return text(r) == none && !ok && e == api.OK
	}
	return Check(r) == api.OK && !r.Exclude && ok && e == api.OK
}

// P4.3: all of some lines with all of some patterns, by the paths that are related.
func TestNarrowSome(t *testing.T) {
	files := someFiles()
	for _, r := range someLines(t, someEnds()) {
		r.Exclude = true
		pairs := relatedAll(r, files)
		back := relatedAll(api.Rule{Left: r.Right, Right: r.Left}, files)
		for _, end := range someEnds() {
			p := parsed(t, "//r/"+end)
			wanted := func(list []string) []string {
				only, form := slices.Clone(list), matcher(p)
				for i, file := range files {
					if !form.MatchString(file) {
						only[i] = ""
					}
				}
				return only
			}
			left, ok, e := NarrowLeft(r, p)
			want := wanted(pairs)
			if !isLine(left, ok, e, hasText(want)) || ok && !slices.Equal(relatedAll(left, files), want) {
				t.Errorf("NarrowLeft(%s, %s) is %s, %v, %d", text(r), end, text(left), ok, e)
			}
			right, ok, e := NarrowRight(r, p)
			want = wanted(back)
			if !isLine(right, ok, e, hasText(want)) || ok && !slices.Equal(relatedAll(api.Rule{Left: right.Right, Right: right.Left}, files), want) {
				t.Errorf("NarrowRight(%s, %s) is %s, %v, %d", text(r), end, text(right), ok, e)
			}
		}
	}
}

func hasText(list []string) bool {
	return slices.ContainsFunc(list, func(s string) bool { return s != "" })
}

func TestNarrow(t *testing.T) {
	wide := "//d/... > " + repeated("c", "x", 10) + "/..."
	for _, c := range []struct {
		r, p, want string // of NarrowLeft
		e          api.Errno
	}{
		{"//c/... > //d/...", "//c/*.x", "//c/*.x > //d/*.x", api.OK},
		{"//d/*.a/... > //c/*/z/...", "//d/*1.a/*/b", "//d/*1.a/*/b > //c/*1/z/*/b", api.OK},
		{"//d/*.a/... > //c/*.b/...", "//d/*/...", "//d/*.a/... > //c/*.b/...", api.OK},
		{"//d/*.a/*/... > //c/*/e/*.b/...", "//d/x.a/...", "//d/x.a/*/... > //c/x/e/*.b/...", api.OK},
		{"//d/*.a > //c/*", "//d/*a", "//d/*.a > //c/*", api.OK},
		{"//d/*.a > //c/*", "//d/*b.a", "//d/*b.a > //c/*b", api.OK},
		{"//d/*.a > //c/*", "//d/.", none, api.ErrPatternForm},
		{"//d/*.a > //c/*", "//d/a", none, api.OK},
		{"//d/*.a > //c/*", "//d/*.b", none, api.OK},
		{"//d/* > //c/*", "//d/*/x", none, api.OK},
		{"//d/* > //c/*", "//e/*", none, api.OK},
		{"//d/e > //c/f", "//d/...", "//d/e > //c/f", api.OK},
		{wide, "//d/a/...", "//d/a/... > " + repeated("c", "x", 10) + "/a/...", api.OK},
		{wide, "//d/*.b", "//d/*.b > " + repeated("c", "x", 10) + "/*.b", api.OK},
		{wide, "//d/a/*", none, api.ErrRuleLimit},
		{wide, "//d/a/b/...", none, api.ErrRuleLimit},
		{wide, "//e/a/b/...", none, api.OK},
		{repeated("d", "x", 10) + "/... > //c/...", repeated("d", "x", 10) + "/*/...", repeated("d", "x", 10) + "/*/... > //c/*/...", api.OK},
		{repeated("d", "x", 10) + "/... > //c/...", repeated("d", "x", 10) + "/*/*/...", none, api.ErrPatternLimit},
		{repeated("d", "x", 10) + "/... > //c/...", "//c/...", none, api.OK},
		{"//d/... > //c/...", repeated("d", "*", 11) + "/...", repeated("d", "*", 11) + "/... > " + repeated("c", "*", 11) + "/...", api.OK},
	} {
		r, p := line(t, c.r), patternOf(c.p)
		got, ok, e := NarrowLeft(r, p)
		if text(got) != c.want || ok != (c.want != none) || e != c.e {
			t.Errorf("NarrowLeft(%s, %s) is %s, %v, %d", c.r, c.p, text(got), ok, e)
		}
		got, ok, e = NarrowRight(api.Rule{Left: r.Right, Right: r.Left}, p)
		if back := text(api.Rule{Left: got.Right, Right: got.Left}); back != c.want || ok != (c.want != none) || e != c.e {
			t.Errorf("NarrowRight(%s turned, %s) is %s turned, %v, %d", c.r, c.p, back, ok, e)
		}
	}
}

// patternOf is the pattern of a text that need not be one of a pattern.
func patternOf(s string) api.Pattern {
	s, rest := strings.CutSuffix(s, "/...")
	return api.Pattern{Parts: strings.Split(strings.TrimPrefix(s, "//"), "/"), Rest: rest}
}

// P4.3 to P4.5: what is wrong with the first argument comes first.
func TestErrorsComeInOrder(t *testing.T) {
	good := line(t, "//d/*.x/... > //d/*.x/...")
	noPattern := api.Pattern{Parts: []string{"d"}}
	long := api.Pattern{Parts: slices.Repeat([]string{"d"}, api.MaxParts+1)}
	for want, list := range noLines(t) {
		for _, bad := range list {
			for _, p := range []api.Pattern{good.Left, noPattern, long, parsed(t, "//y/z")} {
				if r, ok, e := NarrowLeft(bad, p); text(r) != none || ok || e != want {
					t.Errorf("NarrowLeft(%s, %s) is %s, %v, %d", text(bad), patternText(p), text(r), ok, e)
				}
				if r, ok, e := NarrowRight(bad, p); text(r) != none || ok || e != want {
					t.Errorf("NarrowRight(%s, %s) is %s, %v, %d", text(bad), patternText(p), text(r), ok, e)
				}
			}
			for _, pair := range [][2]api.Rule{{bad, good}, {good, bad}, {bad, {}}, {bad, line(t, "//d/* > //c/...")}, {line(t, "//y/z > //y/z"), bad}} {
				checkPairFails(t, pair[0], pair[1], want)
			}
		}
	}
	for want, p := range map[api.Errno]api.Pattern{api.ErrPatternForm: noPattern, api.ErrPatternLimit: long} {
		if r, ok, e := NarrowLeft(good, p); text(r) != none || ok || e != want {
			t.Errorf("NarrowLeft(.., %s) is %s, %v, %d", patternText(p), text(r), ok, e)
		}
		if r, ok, e := NarrowRight(good, p); text(r) != none || ok || e != want {
			t.Errorf("NarrowRight(.., %s) is %s, %v, %d", patternText(p), text(r), ok, e)
		}
	}
}

func checkPairFails(t *testing.T, a, b api.Rule, want api.Errno) {
	t.Helper()
	if r, ok, e := Chain(a, b); text(r) != none || ok || e != want {
		t.Errorf("Chain(%s, %s) is %s, %v, %d", text(a), text(b), text(r), ok, e)
	}
	if p, ok, e := Agree(a, b); patternText(p) != nothing || ok || e != want {
		t.Errorf("Agree(%s, %s) is %s, %v, %d", text(a), text(b), patternText(p), ok, e)
	}
}

// P4.4: all pairs of some lines, by the paths that are related.
func TestChainSome(t *testing.T) {
	files, list := someFiles(), someLines(t, someEnds())
	var pairs [][]string
	var next []func(string) string
	for _, r := range list {
		pairs = append(pairs, relatedAll(r, files))
		next = append(next, remembered(r))
	}
	cache := map[string][]string{}
	for i, a := range list {
		for k, b := range list {
			a.Exclude, b.Exclude = k%2 == 0, i%3 == 0
			want := make([]string, len(files))
			for f, middle := range pairs[i] {
				if middle != "" {
					want[f] = next[k](middle)
				}
			}
			got, ok, e := Chain(a, b)
			if !isLine(got, ok, e, hasText(want)) {
				t.Errorf("Chain(%s, %s) is %s, %v, %d", text(a), text(b), text(got), ok, e)
			} else if ok {
				key := text(got)
				if cache[key] == nil {
					cache[key] = relatedAll(got, files)
				}
				if !slices.Equal(cache[key], want) {
					t.Errorf("Chain(%s, %s) is %s", text(a), text(b), key)
				}
			}
		}
	}
}

// remembered is related for one line, which looks for each path once.
func remembered(r api.Rule) func(string) string {
	left, known := matcher(r.Left), map[string]string{}
	return func(file string) string {
		s, ok := known[file]
		if !ok {
			s = related(left, r, file)
			known[file] = s
		}
		return s
	}
}

func TestChain(t *testing.T) {
	wide := "//d/... > " + repeated("c", "x", 10) + "/..."
	deep := repeated("c", "x", 10) + "/... > //d/..."
	for _, c := range []struct {
		a, b, want string
		e          api.Errno
	}{
		{"//d/... > //e/x/...", "//e/x/*/y > //f/*", "//d/*/y > //f/*", api.OK},
		{"//d/*.a > //e/*", "//e/*b/... > //f/*/...", none, api.OK},
		{"//d/*.a/... > //e/*/...", "//e/*b/* > //f/*/*.z", "//d/*b.a/* > //f/*/*.z", api.OK},
		{"//d/* > //e/q", "//e/* > //f/*", none, api.ErrRuleKinds},
		{"//d/* > //e/*", "//e/q.x > //f/g", "//d/q.x > //f/g", api.OK},
		{"//d/* > //e/*.x", "//e/*.y > //f/*", none, api.OK},
		{"//d/* > //e/*.x", "//g/*.x > //f/*", none, api.OK},
		{"//d/... > //s/...", "//s/*/a/... > //c/*/...", "//d/*/a/... > //c/*/...", api.OK},
		{wide, deep, "//d/... > //d/...", api.OK},
		{deep, wide, repeated("c", "x", 10) + "/... > " + repeated("c", "x", 10) + "/...", api.OK},
		{"//a/* > //d/*", wide, "//a/* > " + repeated("c", "x", 10) + "/*", api.OK},
		{"//a/*/* > //d/*/*", wide, none, api.ErrRuleLimit},
		{"//a/*/* > //e/*/*", wide, none, api.OK},
		{deep, "//d/*/... > //a/*/...", repeated("c", "x", 10) + "/*/... > //a/*/...", api.OK},
		{deep, "//d/*/*/... > //a/*/*/...", none, api.ErrRuleLimit},
		{deep, "//e/*/*/... > //a/*/*/...", none, api.OK},
	} {
		got, ok, e := Chain(line(t, c.a), line(t, c.b))
		if text(got) != c.want || ok != (c.want != none) || e != c.e {
			t.Errorf("Chain(%s, %s) is %s, %v, %d", c.a, c.b, text(got), ok, e)
		}
	}
}

// P4.5: all pairs of some lines, by the paths that are related.
func TestAgreeSome(t *testing.T) {
	files, list := someFiles(), someLines(t, someEnds())
	var pairs [][]string
	for _, r := range list {
		pairs = append(pairs, relatedAll(r, files))
	}
	cache := map[string][]bool{}
	for i, a := range list {
		for k, b := range list {
			a.Exclude, b.Exclude = k%2 == 0, i%3 == 0
			want := make([]bool, len(files))
			for f, right := range pairs[i] {
				want[f] = right != "" && right == pairs[k][f]
			}
			p, ok, e := Agree(a, b)
			if ok != slices.Contains(want, true) || e != api.OK || !ok && patternText(p) != nothing {
				t.Errorf("Agree(%s, %s) is %s, %v, %d", text(a), text(b), patternText(p), ok, e)
			} else if ok && !slices.Equal(matchedBy(p, files, cache), want) {
				t.Errorf("Agree(%s, %s) is %s", text(a), text(b), patternText(p))
			}
		}
	}
}

// matchedBy says which paths a pattern matches, and remembers it.
func matchedBy(p api.Pattern, files []string, cache map[string][]bool) []bool {
	key := patternText(p)
	if cache[key] == nil {
		form := matcher(p)
		for _, file := range files {
			cache[key] = append(cache[key], form.MatchString(file))
		}
	}
	return cache[key]
}

func TestAgree(t *testing.T) {
	wide := "//d/... > " + repeated("c", "x", 10) + "/..."
	for _, c := range []struct {
		a, b, want string
		e          api.Errno
	}{
		{"//a/... > //b/c/...", "//a/*/... > //b/*/c/...", "//a/c/...", api.OK},
		{"//a/* > //b/*", "//a/* > //b/*x", nothing, api.OK},
		{"//a/* > //b/*", "//a/... > //b/...", "//a/*", api.OK},
		{"//a/* > //b/*", "//c/* > //b/*", nothing, api.OK},
		{"//a/* > //b/*", "//a/* > //c/*", nothing, api.OK},
		{"//a/* > //b/*/c", "//a/* > //b/*", nothing, api.OK},
		{"//a/... > //b/c/...", "//a/... > //b/...", nothing, api.OK},
		{"//a/b > //c/d", "//a/* > //c/*", nothing, api.OK},
		{"//a/b > //c/b", "//a/* > //c/*", "//a/b", api.OK},
		{"//a/*.x > //b/*", "//a/* > //b/*.x", nothing, api.OK},
		{"//a/*.x > //b/*.x", "//a/*.y.x > //b/*.y.x", "//a/*.y.x", api.OK},
		{"//a/*.x > //b/c/*", "//a/* > //b/*/c.x", nothing, api.OK},
		{"//a/*.x > //b/c/*.x", "//a/*.x > //b/*/c.x", "//a/c.x", api.OK},
		{"//a/*.x > //b/*.y/c", "//a/*.x > //b/c.y/*", "//a/c.x", api.OK},
		{"//a/*.x > //b/*.y/c", "//a/*.x > //b/y/*", nothing, api.OK},
		{"//a/*.x > //b/*.y/c", "//a/*.x > //b/c.z/*", nothing, api.OK},
		{"//a/*/* > //b/*/c/*", "//a/*/* > //b/*/*/c", "//a/*/c", api.OK},
		{"//a/*/* > //b/c/*/*", "//a/*/* > //b/*/*/c", "//a/c/c", api.OK},
		{"//a/*/* > //b/c/*/*", "//a/*/* > //b/*/*/d", nothing, api.OK},
		{"//a/*/* > //b/c/*/*.y", "//a/*/* > //b/*/*/d.y", nothing, api.OK},
		{"//a/*/* > //b/c/*/*.y", "//a/*/* > //b/*/*/c.y", "//a/c/c", api.OK},
		{"//a/*/* > //b/*/c/d/*", "//a/*/* > //b/*/*/d/d", nothing, api.OK},
		{"//a/*/* > //b/*/c/c/*", "//a/*/* > //b/*/*/c/c", "//a/*/c", api.OK},
		{"//a/*/*/* > //b/*/c/*/*", "//a/*/*/* > //b/*/*/*/d", nothing, api.OK},
		{"//a/*/*/* > //b/*/c/*/*", "//a/*/*/* > //b/*/*/*/c", "//a/*/c/c", api.OK},
		{"//a/*/*/* > //b/c/*/*/*", "//a/*/*/* > //b/*/*/*/d", nothing, api.OK},
		{"//a/*/*/* > //b/c/*/*/*", "//a/*/*/* > //b/*/*/*/c", "//a/c/c/c", api.OK},
		{"//a/*/*/... > //b/x/*/*.y/...", "//a/*/*/... > //b/*/z/*.y/...", nothing, api.OK},
		{"//a/*/*/... > //b/x/*/*.y/...", "//a/*/*/... > //b/*/x/*.y/...", "//a/x/*/...", api.OK},
		{"//a/*/... > //b/x/*.y/...", "//a/*/... > //b/*/x.y/...", "//a/x/...", api.OK},
		{"//a/... > //b/x/y/...", "//a/*/*/... > //b/*/*/x/y/...", "//a/x/y/...", api.OK},
		{"//a/... > //b/x/x/...", "//a/*/*/... > //b/*/*/x/x/...", "//a/x/x/...", api.OK},
		{"//a/... > //b/x/y/...", "//a/*/*/... > //b/*/*/y/x/...", nothing, api.OK},
		{"//a/... > //b/x/y/...", "//a/*/*/*/*/... > //b/*/*/*/*/x/y/...", "//a/x/y/x/y/...", api.OK},
		{"//d/... > //c/...", wide, nothing, api.OK},
		{wide, wide, "//d/...", api.OK},
		{wide, "//d/*/... > //c/*/...", nothing, api.OK},
		{wide, "//d/*/*/... > //c/*/*/...", nothing, api.ErrRuleLimit},
		{"//d/*/*/... > //c/*/*/...", wide, nothing, api.ErrRuleLimit},
		{"//d/*/*/... > //y/*/*/...", wide, nothing, api.ErrRuleLimit},
		{"//e/*/*/... > //c/*/*/...", wide, nothing, api.OK},
		{wide, "//e/*/*/... > //c/*/*/...", nothing, api.OK},
		{wide, "//d/*/... > " + repeated("c", "x", 10) + "/*/...", "//d/*/...", api.OK},
	} {
		got, ok, e := Agree(line(t, c.a), line(t, c.b))
		if patternText(got) != c.want || ok != (c.want != nothing) || e != c.e {
			t.Errorf("Agree(%s, %s) is %s, %v, %d", c.a, c.b, patternText(got), ok, e)
		}
	}
}

// P4.6: all triples of some lines; a result that exceeds a limit ends the comparison.
func TestChainIsAssociative(t *testing.T) {
	list := someLines(t, []string{"...", "a/...", "*", "*a", "b/*", "*/*", "*a/*", "*/...", "a/*/..."})
	list = append(list, line(t, repeated("r", "a", 9)+"/... > //r/..."), line(t, "//r/... > "+repeated("r", "a", 9)+"/..."), line(t, repeated("r", "a", 10)+"/* > //r/*"))
	for _, a := range list {
		for _, b := range list {
			ab, okAB, eAB := Chain(a, b)
			for _, c := range list {
				bc, okBC, eBC := Chain(b, c)
				if eAB != api.OK || eBC != api.OK {
					continue
				}
				left, okLeft, eLeft := chainIf(okAB, ab, c)
				right, okRight, eRight := chainIf(okBC, a, bc)
				if eLeft == api.OK && eRight == api.OK && (okLeft != okRight || text(left) != text(right)) {
					t.Errorf("Chain of %s, %s, %s is %s, and from the right %s", text(a), text(b), text(c), text(left), text(right))
				}
			}
		}
	}
}

// chainIf is Chain where both arguments are lines, which one that relates nothing is not.
func chainIf(ok bool, a, b api.Rule) (api.Rule, bool, api.Errno) {
	if !ok {
		return api.Rule{}, false, api.OK
	}
	return Chain(a, b)
}

// roomy is a pattern whose list of parts has spare capacity, which it also returns as a whole.
func roomy(p api.Pattern) (api.Pattern, []string) {
	memory := append(slices.Clone(p.Parts), "spare", "spare", "spare", "spare", "spare", "spare")
	return api.Pattern{Parts: memory[:len(p.Parts)], Rest: p.Rest}, memory
}

// spoil overwrites a list and its spare capacity.
func spoil(parts []string) {
	for i := range parts[:cap(parts)] {
		parts[:cap(parts)][i] = "spoilt"
	}
}

// R4: arguments stay as they are, and results share no memory with them nor with each other.
func TestMemory(t *testing.T) {
	for _, texts := range [][2]string{
		{"//d/*.a/... > //c/x/*/...", "//c/x/y/*/z > //d/y.a/*/z"},
		{"//d/*.a/... > //d/*.a/...", "//d/*.a/... > //d/*.a/..."},
		{"//d/*/... > //d/y/*.a/...", "//d/*/... > //d/*/y.a/..."},
		{"//d/e > //d/e", "//d/e > //d/e"},
	} {
		for turn := range 9 {
			a, b := line(t, texts[0]), line(t, texts[1])
			var memory [4][]string
			a.Left, memory[0] = roomy(a.Left)
			a.Right, memory[1] = roomy(a.Right)
			b.Left, memory[2] = roomy(b.Left)
			b.Right, memory[3] = roomy(b.Right)
			var before [4][]string
			for i, list := range memory {
				before[i] = slices.Clone(list)
			}
			r, ok := call(turn, a, b)
			if !ok {
				t.Fatalf("call %d of %v has no result", turn, texts)
			}
			right := patternText(r.Right)
			spoil(r.Left.Parts)
			if patternText(r.Right) != right {
				t.Errorf("call %d of %v: the sides share memory", turn, texts)
			}
			spoil(r.Right.Parts)
			for i, list := range memory {
				if !slices.Equal(list, before[i]) {
					t.Errorf("call %d of %v: an argument is now %q", turn, texts, list)
				}
			}
		}
	}
}

// call makes one of some calls; a pattern that is a result is the left side of the line returned.
func call(turn int, a, b api.Rule) (r api.Rule, ok bool) {
	switch turn {
	case 0:
		return Turn(a), true
	case 1:
		r, ok, _ = NarrowLeft(a, a.Left)
	case 2:
		r, ok, _ = NarrowRight(b, b.Right)
	case 3:
		r, ok, _ = NarrowRight(a, a.Right)
	case 4:
		r, ok, _ = Chain(a, Turn(a))
	case 5:
		r, ok, _ = Chain(b, Turn(b))
	case 6:
		r.Left, ok, _ = Agree(a, a)
	case 7:
		r.Left, ok, _ = Agree(b, b)
	case 8:
		r.Left, ok, _ = Agree(a, b)
		if !ok {
			r, ok, _ = Chain(a, b)
		}
	}
	return r, ok
}
