package codec

import (
	"bytes"
	"math"
	"math/big"
	"slices"
	"strings"
	"testing"

	"stockyard/api"
)

// everyLength holds, for each length of an encoding, the least and the greatest number, and some between.
func everyLength() []uint64 {
	l := []uint64{0, 1, 2, 63, 64, 126, 300, 1 << 32, 0x0123456789abcdef, math.MaxInt64, 1 << 63, math.MaxUint64 - 1, math.MaxUint64}
	for bits := 7; bits < 64; bits += 7 {
		l = append(l, 1<<bits-1, 1<<bits, 1<<bits+1)
	}
	return l
}

func everySign() []int {
	l := []int{0, math.MaxInt, math.MinInt, math.MaxInt - 1, math.MinInt + 1}
	for bits := range 63 {
		v := 1 << bits
		l = append(l, v-1, v, v+1, -v, -v-1, -v+1)
	}
	return l
}

func someTexts() []string {
	return []string{"", "a", "ab", "\x00", "\x80\xff", "größe", strings.Repeat("x", 127), strings.Repeat("y", 128), strings.Repeat("z", 20000)}
}

// groups is P1.1 word by word, by division.
func groups(v *big.Int) []byte {
	quotient, group := new(big.Int).DivMod(v, big.NewInt(128), new(big.Int))
	if quotient.Sign() == 0 {
		return []byte{byte(group.Int64())}
	}
	return append([]byte{byte(group.Int64()) + 128}, groups(quotient)...)
}

func wantUint(v uint64) []byte {
	return groups(new(big.Int).SetUint64(v))
}

func wantInt(v int) []byte {
	twice := new(big.Int).Mul(big.NewInt(int64(v)), big.NewInt(2))
	if v < 0 {
		twice.Neg(twice).Sub(twice, big.NewInt(1))
	}
	return groups(twice)
}

func wantText(s string) []byte {
	return append(wantUint(uint64(len(s))), s...)
}

func wantBool(v bool) []byte {
	if v {
		return []byte{1}
	}
	return []byte{0}
}

// P1.1: the form of a Uint.
func TestPutUint(t *testing.T) {
	for _, v := range everyLength() {
		if got := PutUint(nil, v); !bytes.Equal(got, wantUint(v)) {
			t.Errorf("PutUint(nil, %d) = %v, want %v", v, got, wantUint(v))
		}
	}
	for v := range uint64(1 << 15) {
		if got := PutUint(nil, v); !bytes.Equal(got, wantUint(v)) {
			t.Fatalf("PutUint(nil, %d) = %v, want %v", v, got, wantUint(v))
		}
	}
}

func TestPutUintExamples(t *testing.T) {
	for _, c := range []struct {
		v    uint64
		want []byte
	}{
		{0, []byte{0}},
		{127, []byte{127}},
		{128, []byte{128, 1}},
		{300, []byte{172, 2}},
		{1<<14 - 1, []byte{255, 127}},
		{1 << 14, []byte{128, 128, 1}},
		{1<<63 - 1, []byte{255, 255, 255, 255, 255, 255, 255, 255, 127}},
		{1 << 63, []byte{128, 128, 128, 128, 128, 128, 128, 128, 128, 1}},
		{math.MaxUint64, []byte{255, 255, 255, 255, 255, 255, 255, 255, 255, 1}},
	} {
		if got := PutUint(nil, c.v); !bytes.Equal(got, c.want) {
			t.Errorf("PutUint(nil, %d) = %v, want %v", c.v, got, c.want)
		}
	}
}

// P1.2: the form of an Int; every Uint is the encoding of one.
func TestPutInt(t *testing.T) {
	for _, v := range everySign() {
		if got := PutInt(nil, v); !bytes.Equal(got, wantInt(v)) {
			t.Errorf("PutInt(nil, %d) = %v, want %v", v, got, wantInt(v))
		}
	}
	nine := bytes.Repeat([]byte{255}, 9)
	if got := PutInt(nil, math.MinInt); !bytes.Equal(got, append(nine, 1)) {
		t.Errorf("the least int: %v", got)
	}
}

func TestEveryUintIsAnInt(t *testing.T) {
	for _, u := range everyLength() {
		v, next, e := Int(PutUint(nil, u), 0)
		if next != len(wantUint(u)) || e != api.OK || !bytes.Equal(PutInt(nil, v), wantUint(u)) {
			t.Errorf("the number %d is the int %d, %d, %d", u, v, next, e)
		}
	}
}

// P1.3: the forms of a Text and a Bool.
func TestPutText(t *testing.T) {
	for _, s := range someTexts() {
		if got := PutText(nil, s); !bytes.Equal(got, wantText(s)) {
			t.Errorf("PutText of %d bytes begins with %v", len(s), got[:min(len(got), 4)])
		}
	}
	if got := PutText([]byte{7}, "ab"); !bytes.Equal(got, []byte{7, 2, 97, 98}) {
		t.Errorf("PutText({7}, ab) = %v", got)
	}
}

func TestPutBool(t *testing.T) {
	if no, yes := PutBool(nil, false), PutBool(nil, true); !bytes.Equal(no, []byte{0}) || !bytes.Equal(yes, []byte{1}) {
		t.Errorf("false is %v, true is %v", no, yes)
	}
}

// puts lists a call of each Put function with the encoding of its value.
func puts() []struct {
	put  func([]byte) []byte
	want []byte
} {
	return []struct {
		put  func([]byte) []byte
		want []byte
	}{
		{func(b []byte) []byte { return PutUint(b, 300) }, wantUint(300)},
		{func(b []byte) []byte { return PutInt(b, -3000000) }, wantInt(-3000000)},
		{func(b []byte) []byte { return PutText(b, "stock") }, wantText("stock")},
		{func(b []byte) []byte { return PutText(b, "") }, wantText("")},
		{func(b []byte) []byte { return PutBool(b, true) }, wantBool(true)},
	}
}

// The Put functions return new lists: b stays as it is, also in its spare capacity, and shares nothing with them.
func TestPutMakesNewLists(t *testing.T) {
	for i, c := range puts() {
		for _, spare := range []int{0, 1, 100} {
			whole := bytes.Repeat([]byte{200}, 3+spare)
			b := whole[:3]
			got := c.put(b)
			if !bytes.Equal(got, append([]byte{200, 200, 200}, c.want...)) {
				t.Errorf("put %d with %d spare bytes: %v", i, spare, got)
			}
			clear(got[:cap(got)])
			if !bytes.Equal(whole, bytes.Repeat([]byte{200}, 3+spare)) {
				t.Errorf("put %d with %d spare bytes changed its argument: %v", i, spare, whole)
			}
		}
	}
}

func TestPutTwiceOnOneBeginning(t *testing.T) {
	b := append(make([]byte, 0, 64), 9)
	for i, c := range puts() {
		first := c.put(b)
		PutText(b, "overwritten?")
		if !bytes.Equal(first, append([]byte{9}, c.want...)) {
			t.Errorf("put %d was overwritten by another one: %v", i, first)
		}
	}
}

// wantNumber says what a Uint at the beginning of rest is, by P1.4 and the encodings of P1.1 alone.
func wantNumber(rest []byte) (v uint64, size int, e api.Errno) {
	size = 1 + slices.IndexFunc(rest, func(c byte) bool { return c < 128 })
	if size == 0 && len(rest) < 10 {
		return 0, 0, api.ErrCodecShort
	}
	if size == 0 {
		return 0, 0, api.ErrCodecForm
	}
	sum := new(big.Int)
	for i := size - 1; i >= 0; i-- {
		sum.Mul(sum, big.NewInt(128)).Add(sum, big.NewInt(int64(rest[i]%128)))
	}
	if !sum.IsUint64() || !bytes.Equal(wantUint(sum.Uint64()), rest[:size]) {
		return 0, 0, api.ErrCodecForm
	}
	return sum.Uint64(), size, api.OK
}

// checkUint holds Uint and Int at the offset at against wantNumber.
func checkUint(t *testing.T, b []byte, at int) {
	t.Helper()
	want, size, wantErr := wantNumber(b[at:])
	wantNext := 0
	if wantErr == api.OK {
		wantNext = at + size
	}
	if v, next, e := Uint(b, at); v != want || next != wantNext || e != wantErr {
		t.Errorf("Uint(%v, %d) = %d, %d, %d, want %d, %d, %d", b, at, v, next, e, want, wantNext, wantErr)
	}
	v, next, e := Int(b, at)
	if next != wantNext || e != wantErr || e != api.OK && v != 0 || e == api.OK && !bytes.Equal(wantInt(v), b[at:next]) {
		t.Errorf("Int(%v, %d) = %d, %d, %d, want the offset %d, the error %d", b, at, v, next, e, wantNext, wantErr)
	}
}

// P1.4: all short lists of the bytes that matter, and all that can stand at the tenth place.
func TestNumbersOfAllShortLists(t *testing.T) {
	checkUint(t, nil, 0)
	for a := range 256 {
		checkUint(t, []byte{byte(a)}, 0)
		for b := range 256 {
			checkUint(t, []byte{byte(a), byte(b)}, 0)
			for _, c := range []byte{0, 1, 127, 128, 129, 255} {
				checkUint(t, []byte{byte(a), byte(b), c}, 0)
				checkUint(t, []byte{byte(a), byte(b), c}, 1)
			}
		}
	}
}

func TestNumbersOfLongLists(t *testing.T) {
	for _, c := range []byte{128, 129, 255} {
		for length := range 13 {
			before := bytes.Repeat([]byte{c}, length)
			checkUint(t, before, 0)
			for last := range 256 {
				checkUint(t, append(before[:length:length], byte(last)), 0)
				checkUint(t, append(before[:length:length], byte(last), 5), 0)
			}
		}
	}
}

func TestNumberErrors(t *testing.T) {
	nine := bytes.Repeat([]byte{128}, 9)
	for i, c := range []struct {
		b    []byte
		at   int
		want api.Errno
	}{
		{nil, -1, api.ErrCodecPlace},
		{nil, 1, api.ErrCodecPlace},
		{[]byte{5}, math.MinInt, api.ErrCodecPlace},
		{[]byte{5}, math.MaxInt, api.ErrCodecPlace},
		{[]byte{5}, 2, api.ErrCodecPlace},
		{nil, 0, api.ErrCodecShort},
		{[]byte{5}, 1, api.ErrCodecShort},
		{[]byte{128}, 0, api.ErrCodecShort},
		{nine, 0, api.ErrCodecShort},
		{[]byte{128, 0}, 0, api.ErrCodecForm},
		{[]byte{255, 128, 0}, 0, api.ErrCodecForm},
		{append(nine[:9:9], 0), 0, api.ErrCodecForm},
		{append(nine[:9:9], 2), 0, api.ErrCodecForm},
		{append(nine[:9:9], 128), 0, api.ErrCodecForm},
		{append(nine[:9:9], 129), 0, api.ErrCodecForm},
		{append(nine[:9:9], 129, 0), 0, api.ErrCodecForm},
	} {
		if v, next, e := Uint(c.b, c.at); v != 0 || next != 0 || e != c.want {
			t.Errorf("case %d: Uint gives %d, %d, %d, want the error %d", i, v, next, e, c.want)
		}
		if v, next, e := Int(c.b, c.at); v != 0 || next != 0 || e != c.want {
			t.Errorf("case %d: Int gives %d, %d, %d, want the error %d", i, v, next, e, c.want)
		}
	}
}

// P1.4: Text returns the error of its number, then ErrCodecLong, then ErrCodecShort.
func TestText(t *testing.T) {
	for i, c := range []struct {
		b        []byte
		at, most int
		s        string
		next     int
		e        api.Errno
	}{
		{[]byte{2, 97, 98}, 0, 2, "ab", 3, api.OK},
		{[]byte{9, 2, 97, 98, 99}, 1, math.MaxInt, "ab", 4, api.OK},
		{[]byte{0, 97}, 0, 0, "", 1, api.OK},
		{[]byte{0}, 0, -1, "", 1, api.OK},
		{[]byte{0}, 0, math.MinInt, "", 1, api.OK},
		{[]byte{1, 97}, 0, -1, "", 0, api.ErrCodecLong},
		{[]byte{1, 97}, 0, 0, "", 0, api.ErrCodecLong},
		{[]byte{1, 97}, 0, math.MinInt, "", 0, api.ErrCodecLong},
		{[]byte{2, 97, 98}, 0, 1, "", 0, api.ErrCodecLong},
		{[]byte{2, 97}, 0, 1, "", 0, api.ErrCodecLong},
		{[]byte{2, 97}, 0, 2, "", 0, api.ErrCodecShort},
		{[]byte{2, 97}, 0, 9, "", 0, api.ErrCodecShort},
		{[]byte{1}, 0, 1, "", 0, api.ErrCodecShort},
		{[]byte{}, 0, -1, "", 0, api.ErrCodecShort},
		{[]byte{2, 97, 98}, 3, 9, "", 0, api.ErrCodecShort},
		{[]byte{130}, 0, 0, "", 0, api.ErrCodecShort},
		{[]byte{130, 0, 97, 98}, 0, 0, "", 0, api.ErrCodecForm},
		{[]byte{2, 97, 98}, 4, 9, "", 0, api.ErrCodecPlace},
		{[]byte{2, 97, 98}, -1, -1, "", 0, api.ErrCodecPlace},
		{wantUint(1 << 63), 0, math.MaxInt, "", 0, api.ErrCodecLong},
		{wantUint(math.MaxUint64), 0, math.MaxInt, "", 0, api.ErrCodecLong},
		{wantUint(math.MaxUint64), 0, -1, "", 0, api.ErrCodecLong},
		{wantUint(math.MaxInt), 0, math.MaxInt, "", 0, api.ErrCodecShort},
		{wantUint(1 << 32), 0, math.MaxInt, "", 0, api.ErrCodecShort},
	} {
		if s, next, e := Text(c.b, c.at, c.most); s != c.s || next != c.next || e != c.e {
			t.Errorf("case %d: %q, %d, %d, want %q, %d, %d", i, s, next, e, c.s, c.next, c.e)
		}
	}
}

func TestTextIsNewMemory(t *testing.T) {
	b := []byte{2, 97, 98}
	s, _, _ := Text(b, 0, 2)
	b[1] = 0
	if s != "ab" {
		t.Errorf("the text changes with the list: %q", s)
	}
}

// P1.4: Bool.
func TestBool(t *testing.T) {
	for at, want := range []bool{false, true, false} {
		if v, next, e := Bool([]byte{0, 1, 0}, at); v != want || next != at+1 || e != api.OK {
			t.Errorf("the Bool at %d: %v, %d, %d", at, v, next, e)
		}
	}
	for c := 2; c < 256; c++ {
		if v, next, e := Bool([]byte{byte(c), 1}, 0); v || next != 0 || e != api.ErrCodecForm {
			t.Errorf("the byte %d: %v, %d, %d", c, v, next, e)
		}
	}
	for at, want := range map[int]api.Errno{-1: api.ErrCodecPlace, 1: api.ErrCodecShort, 2: api.ErrCodecPlace, math.MaxInt: api.ErrCodecPlace, math.MinInt: api.ErrCodecPlace} {
		if v, next, e := Bool([]byte{1}, at); v || next != 0 || e != want {
			t.Errorf("the offset %d: %v, %d, %d, want the error %d", at, v, next, e, want)
		}
	}
	if v, next, e := Bool(nil, 0); v || next != 0 || e != api.ErrCodecShort {
		t.Errorf("the empty list: %v, %d, %d", v, next, e)
	}
}

// surroundings calls do with an offset and a list in which the encoding of put stands there, with various bytes around it.
func surroundings(put func([]byte) []byte, do func(b []byte, at, end int)) {
	for _, before := range [][]byte{nil, {0}, {128}, {255, 255}} {
		for _, after := range [][]byte{nil, {0}, {128}, {255, 0, 1}} {
			b := put(before)
			end := len(b)
			do(append(b, after...), len(before), end)
		}
	}
}

// P1.5: what was encoded comes back, whatever stands around it.
func TestNumbersComeBack(t *testing.T) {
	for _, v := range everyLength() {
		surroundings(func(b []byte) []byte { return PutUint(b, v) }, func(b []byte, at, end int) {
			if got, next, e := Uint(b, at); got != v || next != end || e != api.OK {
				t.Errorf("%d in %v comes back as %d, %d, %d", v, b, got, next, e)
			}
		})
	}
	for _, v := range everySign() {
		surroundings(func(b []byte) []byte { return PutInt(b, v) }, func(b []byte, at, end int) {
			if got, next, e := Int(b, at); got != v || next != end || e != api.OK {
				t.Errorf("%d in %v comes back as %d, %d, %d", v, b, got, next, e)
			}
		})
	}
}

func TestTextsAndBoolsComeBack(t *testing.T) {
	for _, s := range someTexts() {
		surroundings(func(b []byte) []byte { return PutText(b, s) }, func(b []byte, at, end int) {
			if got, next, e := Text(b, at, len(s)); got != s || next != end || e != api.OK {
				t.Errorf("a text of %d bytes comes back with %d, as %d, %d", len(s), len(got), next, e)
			}
		})
	}
	for _, v := range []bool{false, true} {
		surroundings(func(b []byte) []byte { return PutBool(b, v) }, func(b []byte, at, end int) {
			if got, next, e := Bool(b, at); got != v || next != end || e != api.OK {
				t.Errorf("%v in %v comes back as %v, %d, %d", v, b, got, next, e)
			}
		})
	}
}

// P1.5: no proper beginning of an encoding is one; P1.4 calls each of them short.
func TestProperBeginnings(t *testing.T) {
	for _, v := range everyLength() {
		b := PutUint(nil, v)
		for n := range b {
			_, _, e := Uint(b[:n:n], 0)
			_, _, f := Int(b[:n:n], 0)
			if e != api.ErrCodecShort || f != api.ErrCodecShort {
				t.Errorf("%d bytes of %v give %d and %d", n, b, e, f)
			}
		}
	}
	for _, s := range someTexts() {
		b := PutText(nil, s)
		for n := range b {
			if _, _, e := Text(b[:n:n], 0, len(s)); e != api.ErrCodecShort {
				t.Fatalf("%d bytes of the text of %d give %d", n, len(s), e)
			}
		}
	}
}

// Values of all kinds in a row are read back one after the other.
func TestRow(t *testing.T) {
	b := PutBool(PutText(PutInt(PutUint(nil, 1<<40), -77), "läger"), true)
	u, at, e := Uint(b, 0)
	i, at, f := Int(b, at)
	s, at, g := Text(b, at, api.MaxText)
	v, at, h := Bool(b, at)
	if u != 1<<40 || i != -77 || s != "läger" || !v || at != len(b) || e+f+g+h != api.OK {
		t.Errorf("%v comes back as %d, %d, %q, %v to %d", b, u, i, s, v, at)
	}
}
