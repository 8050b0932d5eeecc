package filetype

import (
	"math"
	"regexp"
	"strings"
	"testing"

	"stockyard/api"
	"stockyard/path"
)

var (
	text   = api.Type{Base: api.BaseText}
	binary = api.Type{Base: api.BaseBinary}
	link   = api.Type{Base: api.BaseLink}
)

// texts is the texts of all types.
func texts() map[string]api.Type {
	return map[string]api.Type{
		"text":      {Base: 1},
		"text+k":    {Base: 1, Keywords: true},
		"text+l":    {Base: 1, Exclusive: true},
		"text+x":    {Base: 1, Executable: true},
		"text+kl":   {Base: 1, Keywords: true, Exclusive: true},
		"text+kx":   {Base: 1, Keywords: true, Executable: true},
		"text+lx":   {Base: 1, Exclusive: true, Executable: true},
		"text+klx":  {Base: 1, Keywords: true, Exclusive: true, Executable: true},
		"binary":    {Base: 2},
		"binary+l":  {Base: 2, Exclusive: true},
		"binary+x":  {Base: 2, Executable: true},
		"binary+lx": {Base: 2, Exclusive: true, Executable: true},
		"link":      {Base: 3},
		"link+l":    {Base: 3, Exclusive: true},
	}
}

// withMarks is a type of each base in the list with each set of marks.
func withMarks(bases ...int) []api.Type {
	var list []api.Type
	for _, base := range bases {
		for i := range 8 {
			list = append(list, api.Type{Base: base, Keywords: i&1 != 0, Exclusive: i&2 != 0, Executable: i&4 != 0})
		}
	}
	return list
}

// invalid is types that are none.
func invalid() []api.Type {
	valid := map[api.Type]bool{}
	for _, x := range texts() {
		valid[x] = true
	}
	var list []api.Type
	for _, x := range withMarks(0, 1, 2, 3, 4, -1, -2, 5, 257, 1<<32+1, math.MaxInt, math.MinInt) {
		if !valid[x] {
			list = append(list, x)
		}
	}
	return list
}

// short calls f with all texts of at most n of the pieces, with between between them.
func short(pieces []string, between string, n int, f func(string)) {
	list := []string{""}
	f("")
	for i := range n {
		var longer []string
		for _, s := range list {
			for _, piece := range pieces {
				if i > 0 {
					piece = between + piece
				}
				longer = append(longer, s+piece)
			}
		}
		list = longer
		for _, s := range list {
			f(s)
		}
	}
}

// P9.1: the types that there are, and what is wrong with the others.
func TestCheck(t *testing.T) {
	for s, x := range texts() {
		if e := Check(x); e != api.OK {
			t.Errorf("Check of %q is %d", s, e)
		}
	}
	if n := len(texts()) + len(invalid()); n != 12*8 {
		t.Fatalf("%d types", n)
	}
	for _, x := range invalid() {
		if e := Check(x); e != api.ErrFiletypeForm {
			t.Errorf("Check(%v) is %d", x, e)
		}
	}
}

// P9.1: the text of each type, and none of what is no type.
func TestFormat(t *testing.T) {
	for want, x := range texts() {
		if s, e := Format(x); s != want || e != api.OK {
			t.Errorf("Format of %q is %q, %d", want, s, e)
		}
	}
	for _, x := range invalid() {
		if s, e := Format(x); s != "" || e != api.ErrFiletypeForm {
			t.Errorf("Format(%v) is %q, %d", x, s, e)
		}
	}
}

// reads holds Parse against the table of all texts.
func reads(t *testing.T, s string) {
	want, ok := texts()[s]
	wantError := api.ErrFiletypeForm
	if ok {
		wantError = api.OK
	}
	if x, e := Parse(s); x != want || e != wantError {
		t.Errorf("Parse(%q) is %v, %d", s, x, e)
	}
}

// P9.1: the texts of types, and texts that are much like them.
func TestParse(t *testing.T) {
	for s := range texts() {
		reads(t, s)
		for i := range len(s) {
			reads(t, s[:i])
			reads(t, s[i:])
			reads(t, s[:i]+s[i+1:])
		}
		for i := range len(s) + 1 {
			for c := range 256 {
				reads(t, s[:i]+string([]byte{byte(c)})+s[i:])
				if i < len(s) {
					reads(t, s[:i]+string([]byte{byte(c)})+s[i+1:])
				}
			}
		}
	}
	for _, s := range []string{"Text", "TEXT", "texttext", "text,k", "text +k", "text+K", "symlink", "1", "directory+l", "text+klx\x00"} {
		reads(t, s)
	}
	reads(t, "text+"+strings.Repeat("k", 1000))
	reads(t, strings.Repeat("text", 1000))
}

// P9.1: each base, and none, with all short rows of letters behind it.
func TestParseLetters(t *testing.T) {
	for _, name := range []string{"text", "binary", "link", "", "tex", "links"} {
		short([]string{"k", "l", "x", "+", "z"}, "", 5, func(s string) {
			reads(t, name+s)
		})
	}
}

// translates holds Canon and Local against the bytes that they are to return.
func translates(t *testing.T, x api.Type, b string, ending int, canon, local string, want api.Errno) {
	t.Helper()
	for _, c := range []struct {
		name, want string
		f          func(api.Type, []byte, int) ([]byte, api.Errno)
	}{{"Canon", canon, Canon}, {"Local", local, Local}} {
		if got, e := c.f(x, []byte(b), ending); string(got) != c.want || e != want || e != api.OK && got != nil {
			t.Errorf("%s(%v, %q, %d) is %q, %d", c.name, x, b, ending, got, e)
		}
	}
}

// P9.2: the ends of lines of texts.
func TestEnds(t *testing.T) {
	for _, c := range []struct{ b, canon, local string }{
		{"", "", ""},
		{"a", "a", "a"},
		{"\n", "\n", "\r\n"},
		{"\r", "\r", "\r"},
		{"\r\n", "\n", "\r\r\n"},
		{"\n\r", "\n\r", "\r\n\r"},
		{"\n\n", "\n\n", "\r\n\r\n"},
		{"\r\r\n", "\r\n", "\r\r\r\n"},
		{"\r\n\n", "\n\n", "\r\r\n\r\n"},
		{"\r\n\r\n", "\n\n", "\r\r\n\r\r\n"},
		{"\r\na\r", "\na\r", "\r\r\na\r"},
		{"a\r\n\r\r\nb\n", "a\n\r\nb\n", "a\r\r\n\r\r\r\nb\r\n"},
		{"a\x00\xff\n\xc3", "a\x00\xff\n\xc3", "a\x00\xff\r\n\xc3"},
	} {
		for _, x := range withMarks(api.BaseText) {
			translates(t, x, c.b, api.EndLF, c.b, c.b, api.OK)
			translates(t, x, c.b, api.EndCRLF, c.canon, c.local, api.OK)
		}
		for _, x := range []api.Type{binary, texts()["binary+lx"]} {
			translates(t, x, c.b, api.EndLF, c.b, c.b, api.OK)
			translates(t, x, c.b, api.EndCRLF, c.b, c.b, api.OK)
		}
	}
	many := strings.Repeat("line\n", 100000)
	ends := strings.ReplaceAll(many, "\n", "\r\n")
	translates(t, text, many, api.EndCRLF, many, ends, api.OK)
	translates(t, text, ends, api.EndCRLF, many, strings.ReplaceAll(ends, "\n", "\r\n"), api.OK)
}

// P9.2: what may be the bytes of a link, and what may not.
func TestLinkBytes(t *testing.T) {
	long := strings.Repeat("a", 200)
	for _, x := range []api.Type{link, texts()["link+l"]} {
		for _, ending := range []int{api.EndLF, api.EndCRLF} {
			for _, s := range []string{"a", "../b", "/", "//a/b", ".", "\r", "a\rb", "\x01", "\xff", " ", long, strings.Repeat("\xc3", 200)} {
				translates(t, x, s, ending, s, s, api.OK)
			}
			for _, s := range []string{"", "\n", "\x00", "a\n", "\na", "a\nb", "a\r\nb", "\x00a", "a\x00", "a\x00b", long + "a", long[:199] + "\n", long[:199] + "\x00"} {
				translates(t, x, s, ending, "", "", api.ErrFiletypeBytes)
			}
			for c := range 256 {
				s := "a" + string([]byte{byte(c)})
				if c == 0 || c == 10 {
					translates(t, x, s, ending, "", "", api.ErrFiletypeBytes)
				} else {
					translates(t, x, s, ending, s, s, api.OK)
				}
			}
		}
	}
	for _, x := range []api.Type{text, binary} {
		for _, s := range []string{"", "\x00", long + "a", strings.Repeat("a", 100000)} {
			translates(t, x, s, api.EndCRLF, s, s, api.OK)
		}
	}
}

// P9.2: the errors, of which the first one counts.
func TestErrorsOfBytes(t *testing.T) {
	endings := []int{0, 3, -1, 4, 257, 1<<32 + 1, math.MaxInt, math.MinInt}
	for _, x := range invalid() {
		for _, s := range []string{"a", "", "a\n"} {
			for _, ending := range append(endings, api.EndLF, api.EndCRLF) {
				translates(t, x, s, ending, "", "", api.ErrFiletypeForm)
			}
		}
	}
	for _, x := range texts() {
		for _, s := range []string{"a", "", "a\n", "a\r\n", strings.Repeat("a", 201)} {
			for _, ending := range endings {
				translates(t, x, s, ending, "", "", api.ErrFiletypeEnding)
			}
		}
	}
}

// bare reports whether a byte 10 of s does not stand after a byte 13.
func bare(s string) bool {
	for i := range len(s) {
		if s[i] == 10 && (i == 0 || s[i-1] != 13) {
			return true
		}
	}
	return false
}

// P9.3: what Canon and Local make of each other's results, for all short rows of some bytes.
func TestThereAndBack(t *testing.T) {
	short([]string{"\r", "\n", "a", "\x00"}, "", 7, func(s string) {
		for _, x := range []api.Type{text, binary, link} {
			for _, ending := range []int{api.EndLF, api.EndCRLF} {
				local, e := Local(x, []byte(s), ending)
				if x == link && (s == "" || strings.ContainsAny(s, "\x00\n")) {
					if e != api.ErrFiletypeBytes {
						t.Errorf("Local(%v, %q, %d) returns %d", x, s, ending, e)
					}
					continue
				}
				stored, e2 := Canon(x, local, ending)
				if string(stored) != s || e != api.OK || e2 != api.OK {
					t.Errorf("Canon of Local(%v, %q, %d) is %q, %d, %d", x, s, ending, stored, e, e2)
				}
				stored, e = Canon(x, []byte(s), ending)
				local, e2 = Local(x, stored, ending)
				same := x != text || ending == api.EndLF || !bare(s)
				if (string(local) == s) != same || e != api.OK || e2 != api.OK {
					t.Errorf("Local of Canon(%v, %q, %d) is %q, %d, %d", x, s, ending, local, e, e2)
				}
			}
		}
	})
}

// ends replaces the ends of lines as P9.2 says it, from the first byte to the last one.
func ends(s string) (canon, local string) {
	for i := 0; i < len(s); i++ {
		if s[i] == 10 {
			local += "\r\n"
		} else {
			local += s[i : i+1]
		}
	}
	for i := 0; i < len(s); i++ {
		if i+1 < len(s) && s[i] == 13 && s[i+1] == 10 {
			i++
		}
		canon += s[i : i+1]
	}
	return canon, local
}

// P9.2: all short rows of some bytes as texts.
func TestShortTexts(t *testing.T) {
	short([]string{"\r", "\n", "a", "\x00"}, "", 7, func(s string) {
		canon, local := ends(s)
		translates(t, text, s, api.EndCRLF, canon, local, api.OK)
	})
}

// leads holds Follow against the path or the error that it is to return.
func leads(t *testing.T, p, target, want string, wantError api.Errno) {
	t.Helper()
	if got, e := Follow(p, target); got != want || e != wantError {
		t.Errorf("Follow(%q, %q) is %q, %d, not %q, %d", p, target, got, e, want, wantError)
	}
}

// P9.4: where links lead.
func TestFollow(t *testing.T) {
	for _, c := range []struct{ p, target, want string }{
		{"//a/b/c", "d", "//a/b/d"},
		{"//a/b/c", "c", "//a/b/c"},
		{"//a/b/c", "d/e/f", "//a/b/d/e/f"},
		{"//a/b/c", "../d/./e", "//a/d/e"},
		{"//a/b/c", "../b/c", "//a/b/c"},
		{"//a/b/c", ".", "//a/b"},
		{"//a/b/c", "./", "//a/b"},
		{"//a/b/c", ".//.", "//a/b"},
		{"//a/b/c", "d//e/", "//a/b/d/e"},
		{"//a/b/c", "d/..", "//a/b"},
		{"//a/b/c", "d/e/../..", "//a/b"},
		{"//a/b/c", "x/../..//d/", "//a/d"},
		{"//a/b/c/d", "..", "//a/b"},
		{"//a/b/c/d", "../", "//a/b"},
		{"//a/b/c/d", "../../x", "//a/x"},
		{"//a/b/c", "../b", "//a/b"},
		{"//a/b", "c", "//a/c"},
		{"//a/b", "c/d/..", "//a/c"},
		{"//a/b", "c/../d", "//a/d"},
		{"//a/b", "a../c", "//a/a../c"},
		{"//a/b", "+/-/_.9", "//a/+/-/_.9"},
		{"//a/b", "A.b/Z", "//a/A.b/Z"},
	} {
		leads(t, c.p, c.target, c.want, api.OK)
	}
	deep := "//a" + strings.Repeat("/b", 150)
	leads(t, deep, strings.Repeat("c", 200), deep[:len(deep)-1]+strings.Repeat("c", 200), api.OK)
	leads(t, deep, "d"+strings.Repeat("/d", 99), deep[:len(deep)-1]+"d"+strings.Repeat("/d", 99), api.OK)
	leads(t, "//a"+strings.Repeat("/b", 67), strings.Repeat("../", 66)+"c", "//a/c", api.OK)
	leads(t, "//a"+strings.Repeat("/b", 66), strings.Repeat("../", 66)+"c", "", api.ErrFiletypeLink)
}

// P9.4: links that lead to no path.
func TestFollowNowhere(t *testing.T) {
	for _, c := range []struct{ p, target string }{
		// It begins with a slash.
		{"//a/b/c", "/"},
		{"//a/b/c", "/d"},
		{"//a/b/c", "/a/b"},
		{"//a/b/c", "//a/b"},
		{"//a/b/c", "/./d"},
		// The first component is left out, also if components come after it.
		{"//a/b", ".."},
		{"//a/b", "../a/b"},
		{"//a/b/c", "../../d"},
		{"//a/b/c", "../../a/b"},
		{"//a/b/c", "d/../../../a/b"},
		{"//a/b/c", "../../.."},
		// Something is no component, also if it is left out again.
		{"//a/b/c", ".d"},
		{"//a/b/c", "..."},
		{"//a/b/c", "..d"},
		{"//a/b/c", "d/.e/f"},
		{"//a/b/c", ".d/../e"},
		{"//a/b/c", "x y"},
		{"//a/b/c", "x y/../e"},
		{"//a/b/c", "d/\r"},
		{"//a/b/c", ". "},
		{"//a/b/c", "*"},
		{"//a/b/c", "\xc3\xa4"},
		{"//a/b/c", "d\\e"},
		// One component is left.
		{"//a/b", "."},
		{"//a/b", "./"},
		{"//a/b", "c/.."},
		{"//a/b/c", ".."},
		{"//a/b/c", "d/../../."},
	} {
		leads(t, c.p, c.target, "", api.ErrFiletypeLink)
	}
}

// P9.4: the errors, of which the first one counts.
func TestErrorsOfFollow(t *testing.T) {
	long := strings.Repeat("a", 200)
	for _, p := range []string{"", "//a", "/a/b", "a/b", "//a/b/", "//a//b", "//a/.b", "//a/b c", "//a/..", "//a/*", "//a/...", "///a/b"} {
		for _, target := range []string{"c", "", "c\n", "/c", "..", ".c", long + "a"} {
			leads(t, p, target, "", api.ErrPathForm)
		}
	}
	for _, target := range []string{"", "c\n", "\nc", "\x00", "c\x00d", "/\n", "../\n", "../../\x00", ".c/\n", long + "a", "/" + long, "../" + long, strings.Repeat("./", 101)} {
		leads(t, "//a/b", target, "", api.ErrFiletypeBytes)
	}
	leads(t, "//a/b", long, "//a/"+long, api.OK)
	leads(t, "//a/b", strings.Repeat("./", 99)+"cd", "//a/cd", api.OK)
	leads(t, "//a/b", strings.Repeat("./", 99)+"cde", "", api.ErrFiletypeBytes)
}

// rewriter follows links by rewriting the text of all steps, as long as there is a step that may be taken out.
type rewriter struct{ still, down, path *regexp.Regexp }

func newRewriter() rewriter {
	component := `/[A-Za-z0-9_+-][A-Za-z0-9_.+-]*`
	return rewriter{
		still: regexp.MustCompile(`/\.?/`),
		down:  regexp.MustCompile(`(` + component + `)` + component + `/\.\./`),
		path:  regexp.MustCompile(`^(` + component + `){2,}/$`),
	}
}

// follow returns the path, and the empty text if there is none.
func (r rewriter) follow(p, target string) string {
	if strings.HasPrefix(target, "/") {
		return ""
	}
	s := p[1:strings.LastIndex(p, "/")] + "/" + target + "/"
	for {
		next := r.still.ReplaceAllString(s, "/")
		next = r.down.ReplaceAllString(next, "$1/")
		if next == s {
			break
		}
		s = next
	}
	if !r.path.MatchString(s) {
		return ""
	}
	return "/" + strings.TrimSuffix(s, "/")
}

// follows holds Follow against the rewriter.
func (r rewriter) follows(t *testing.T, p, target string) {
	t.Helper()
	want := r.follow(p, target)
	switch {
	case target == "":
		leads(t, p, target, "", api.ErrFiletypeBytes)
	case want == "":
		leads(t, p, target, "", api.ErrFiletypeLink)
	default:
		leads(t, p, target, want, api.OK)
	}
}

// P9.4: all targets of a few steps.
func TestFollowSteps(t *testing.T) {
	r := newRewriter()
	short([]string{"", ".", "..", "a", "b.c", ".x", "x y"}, "/", 5, func(target string) {
		for _, p := range []string{"//a/b", "//a/b/c", "//p/q.r/s/t"} {
			r.follows(t, p, target)
		}
	})
}

// P9.4: all short targets of some bytes, and each byte alone.
func TestFollowBytes(t *testing.T) {
	r := newRewriter()
	short([]string{"/", ".", "a", "*"}, "", 7, func(target string) {
		r.follows(t, "//a/b/c", target)
	})
	for c := range 256 {
		if s := string([]byte{byte(c)}); c != 0 && c != 10 {
			r.follows(t, "//a/b/c", s)
			r.follows(t, "//a/b/c", "d"+s)
			r.follows(t, "//a/b/c", "d/"+s+"/e")
		}
	}
}

// P9.4: what Follow returns is a path, and the way from a file to its own name.
func TestFollowOwnName(t *testing.T) {
	for _, p := range []string{"//a/b", "//a/b/c", "//A.9/+/-_/x.tar.gz", "//a/a/a/a"} {
		name, _ := path.Name(p)
		leads(t, p, name, p, api.OK)
		leads(t, p, "./"+name+"/", p, api.OK)
		back, e := Follow(p, "x/y")
		if !path.Valid(back) || e != api.OK {
			t.Errorf("Follow(%q) is %q, %d", p, back, e)
		}
		leads(t, back, "../"+name, p, api.OK)
	}
}

// R4: the bytes given stay as they are, also behind their end, and results share no memory with them.
func TestMemory(t *testing.T) {
	for _, x := range []api.Type{text, binary, link} {
		for _, s := range []string{"", "a", "ab/c", "a\n", "\r\na\r\n", strings.Repeat("a", 150)} {
			for _, ending := range []int{api.EndLF, api.EndCRLF, 0} {
				for _, f := range []func(api.Type, []byte, int) ([]byte, api.Errno){Canon, Local} {
					whole := []byte(s + "\nspare\r\n")
					first, _ := f(x, whole[:len(s)], ending)
					kept := string(first)
					second, _ := f(x, whole[:len(s)], ending)
					first, second = first[:cap(first)], second[:cap(second)]
					for i := range second {
						second[i] = 'z'
					}
					if string(whole) != s+"\nspare\r\n" || string(first[:len(kept)]) != kept {
						t.Errorf("%v, %q, %d: the result shares memory", x, s, ending)
					}
					for i := range first {
						first[i] = 'y'
					}
					if string(whole) != s+"\nspare\r\n" || strings.Trim(string(second), "z") != "" {
						t.Errorf("%v, %q, %d: the result shares memory", x, s, ending)
					}
				}
			}
		}
	}
}
