package str_test

import (
	"bytes"
	"math"
	"math/big"
	"slices"
	"strings"
	"testing"

	"selkie/api"
	"selkie/str"
)

const (
	least = math.MinInt64
	most  = math.MaxInt64
)

// allBytes is each byte once, in order.
func allBytes() string {
	var out []byte
	for c := range 256 {
		out = append(out, byte(c))
	}
	return string(out)
}

func texts() []string {
	return []string{"", "a", "ab", "aa", "hello", "aabaa", "%", "\x00", "\xff\x00\n", "é", "日本", allBytes(), strings.Repeat("abc", 100)}
}

// places are those around which something turns in a string of n bytes, from both ends, and far away from it.
func places(n int) []int64 {
	l := []int64{least, least + 1, least + int64(n), least + int64(n) + 1, least + int64(n) + 2, -1 << 32, -1<<32 + 1, 1 << 31, 1<<31 + 1, 1 << 32, 1<<32 + 1, most - int64(n) - 1, most - int64(n), most - 1, most}
	for _, by := range []int64{-3, -2, -1, 0, 1, 2, 3} {
		l = append(l, by, int64(n)+by, -int64(n)+by, int64(n/2)+by, -int64(n/2)+by)
	}
	slices.Sort(l)
	return slices.Compact(l)
}

// begin is what a place counts as where a piece begins, in numbers that don't go round.
func begin(i int64, n int) *big.Int {
	at := big.NewInt(i)
	if i < 0 {
		at.Add(at, big.NewInt(int64(n)+1))
		if at.Cmp(big.NewInt(1)) < 0 {
			return big.NewInt(1)
		}
	}
	if at.Sign() == 0 {
		return big.NewInt(1)
	}
	return at
}

// end is what a place counts as where a piece ends, in numbers that don't go round.
func end(j int64, n int) *big.Int {
	at := big.NewInt(j)
	if j < 0 {
		at.Add(at, big.NewInt(int64(n)+1))
	}
	if size := big.NewInt(int64(n)); at.Cmp(size) > 0 {
		return size
	}
	return at
}

// piece is the chapter's piece, byte by byte.
func piece(s string, i, j int64) string {
	from, to := begin(i, len(s)), end(j, len(s))
	var out []byte
	for at := range len(s) {
		if p := big.NewInt(int64(at) + 1); p.Cmp(from) >= 0 && p.Cmp(to) <= 0 {
			out = append(out, s[at])
		}
	}
	return string(out)
}

// numbers are a string's bytes.
func numbers(s string) []int64 {
	var l []int64
	for _, c := range []byte(s) {
		l = append(l, int64(c))
	}
	return l
}

// P4.1
func TestSub(t *testing.T) {
	for _, x := range []struct {
		s    string
		i, j int64
		want string
	}{
		{"hello", 1, 5, "hello"}, {"hello", 2, 4, "ell"}, {"hello", 2, -2, "ell"}, {"hello", 3, 3, "l"}, {"hello", 1, 1, "h"}, {"hello", 5, 5, "o"},
		{"hello", 0, 5, "hello"}, {"hello", 0, 1, "h"}, {"hello", 0, 0, ""}, {"hello", 1, 0, ""}, {"hello", 0, -1, "hello"},
		{"hello", -1, -1, "o"}, {"hello", -3, -1, "llo"}, {"hello", -4, 4, "ell"}, {"hello", -5, -1, "hello"}, {"hello", -5, -5, "h"}, {"hello", -6, -1, "hello"}, {"hello", -6, 1, "h"}, {"hello", -99, 2, "he"},
		{"hello", 1, -5, "h"}, {"hello", 1, -6, ""}, {"hello", 1, -7, ""}, {"hello", 1, -99, ""}, {"hello", -99, -99, ""}, {"hello", -6, -6, ""},
		{"hello", 1, 6, "hello"}, {"hello", 5, 99, "o"}, {"hello", 6, 6, ""}, {"hello", 6, 99, ""}, {"hello", 7, 7, ""}, {"hello", 6, 5, ""}, {"hello", 6, -1, ""}, {"hello", 99, 1, ""},
		{"hello", 4, 2, ""}, {"hello", 4, 3, ""}, {"hello", -1, -2, ""}, {"hello", -2, 3, ""},
		{"hello", least, most, "hello"}, {"hello", most, least, ""}, {"hello", least, least, ""}, {"hello", most, most, ""}, {"hello", least, -1, "hello"}, {"hello", least, 2, "he"}, {"hello", 4, most, "lo"}, {"hello", 1, least, ""}, {"hello", most, -1, ""},
		{"", 1, 1, ""}, {"", 0, 0, ""}, {"", 1, 0, ""}, {"", -1, -1, ""}, {"", 1, -1, ""}, {"", 0, 1, ""}, {"", least, most, ""},
		{"\xff\x00é", 1, 2, "\xff\x00"}, {"\xff\x00é", 3, 3, "\xc3"}, {"\xff\x00é", -1, -1, "\xa9"},
	} {
		if got := str.Sub(x.s, x.i, x.j); got != x.want {
			t.Errorf("Sub(%q, %d, %d): %q, not %q", x.s, x.i, x.j, got, x.want)
		}
		if got := str.Bytes(x.s, x.i, x.j); !slices.Equal(got, numbers(x.want)) {
			t.Errorf("Bytes(%q, %d, %d): %v", x.s, x.i, x.j, got)
		}
	}
}

// P4.1, P4.5: a piece is what the chapter's words ask, as a string and as bytes, and Chars of those bytes is the piece.
func TestPiecesFromAllPlaces(t *testing.T) {
	for _, s := range texts() {
		for _, i := range places(len(s)) {
			for _, j := range places(len(s)) {
				want := piece(s, i, j)
				if got := str.Sub(s, i, j); got != want {
					t.Errorf("Sub(%q, %d, %d): %q, not %q", s, i, j, got, want)
				}
				l := str.Bytes(s, i, j)
				if !slices.Equal(l, numbers(want)) {
					t.Errorf("Bytes(%q, %d, %d): %v", s, i, j, l)
				}
				if got, e := str.Chars(l); got != want || e != api.OK {
					t.Errorf("Chars(%v): %q, %v", l, got, e)
				}
			}
		}
	}
}

// P4.5
func TestPiecesAreTheString(t *testing.T) {
	for _, s := range texts() {
		n := int64(len(s))
		for cut := int64(0); cut <= n; cut++ {
			if got := str.Sub(s, 1, cut) + str.Sub(s, cut+1, n); got != s {
				t.Errorf("%q, cut behind %d: %q", s, cut, got)
			}
			if got := str.Sub(s, 1, cut) + str.Sub(s, cut+1, -1); got != s {
				t.Errorf("%q, cut behind %d, to the last: %q", s, cut, got)
			}
			if cut == n {
				continue // 0 bytes from the end have no place below 0
			}
			if got := str.Sub(s, 1, cut-n-1) + str.Sub(s, cut-n, -1); got != s {
				t.Errorf("%q, cut ahead of %d: %q", s, cut-n, got)
			}
		}
	}
	s := "hello, you"
	for a := int64(0); a <= int64(len(s)); a++ {
		for b := a; b <= int64(len(s)); b++ {
			if got := str.Sub(s, 1, a) + str.Sub(s, a+1, b) + str.Sub(s, b+1, most); got != s {
				t.Errorf("%q, cut behind %d and %d: %q", s, a, b, got)
			}
		}
	}
}

// P4.1
func TestBytesOfEveryValue(t *testing.T) {
	l := str.Bytes(allBytes(), 1, -1)
	if len(l) != 256 {
		t.Fatalf("%d bytes", len(l))
	}
	for c, n := range l {
		if n != int64(c) {
			t.Errorf("byte %d: %d", c, n)
		}
		if s, e := str.Chars([]int64{int64(c)}); s != string([]byte{byte(c)}) || e != api.OK {
			t.Errorf("Chars of %d: %q, %v", c, s, e)
		}
	}
}

// An answer's list is its own: what is done to it, or behind it, is seen nowhere else.
func TestBytesAreNewMemory(t *testing.T) {
	a, b := str.Bytes("hello", 2, 4), str.Bytes("hello", 2, 4)
	a[0] = 0
	_ = append(a, 7)
	if want := []int64{'e', 'l', 'l'}; !slices.Equal(b, want) || !slices.Equal(str.Bytes("hello", 2, 4), want) {
		t.Error(a, b)
	}
}

// P4.1
func TestChars(t *testing.T) {
	for _, x := range []struct {
		l    []int64
		want string
		e    api.Errno
	}{
		{nil, "", api.OK}, {[]int64{}, "", api.OK}, {[]int64{0}, "\x00", api.OK}, {[]int64{1}, "\x01", api.OK}, {[]int64{255}, "\xff", api.OK}, {[]int64{254, 255, 0, 104}, "\xfe\xff\x00h", api.OK}, {[]int64{195, 169}, "é", api.OK}, {[]int64{104, 105}, "hi", api.OK},
		{[]int64{-1}, "", api.ErrArg}, {[]int64{-2}, "", api.ErrArg}, {[]int64{256}, "", api.ErrArg}, {[]int64{257}, "", api.ErrArg}, {[]int64{-256}, "", api.ErrArg}, {[]int64{-255}, "", api.ErrArg}, {[]int64{512}, "", api.ErrArg}, {[]int64{0x65e5}, "", api.ErrArg},
		{[]int64{1 << 32}, "", api.ErrArg}, {[]int64{1<<32 + 65}, "", api.ErrArg}, {[]int64{-1<<32 + 65}, "", api.ErrArg}, {[]int64{least}, "", api.ErrArg}, {[]int64{least + 65}, "", api.ErrArg}, {[]int64{most}, "", api.ErrArg},
		{[]int64{104, -1}, "", api.ErrArg}, {[]int64{-1, 104}, "", api.ErrArg}, {[]int64{104, 256, 105}, "", api.ErrArg}, {[]int64{104, 105, 256}, "", api.ErrArg},
	} {
		if got, e := str.Chars(x.l); got != x.want || e != x.e {
			t.Errorf("Chars(%v): %q, %v", x.l, got, e)
		}
	}
}

// What is handed in stays as it was, what stands behind its end too.
func TestCharsLeavesItsList(t *testing.T) {
	room := []int64{104, 105, 7, 8}
	s, e := str.Chars(room[:2])
	if s != "hi" || e != api.OK || !slices.Equal(room, []int64{104, 105, 7, 8}) {
		t.Error(s, e, room)
	}
	room[0] = 'x'
	if s != "hi" {
		t.Error(s)
	}
}

// P4.1
func TestUpperAndLower(t *testing.T) {
	const small, capital = "abcdefghijklmnopqrstuvwxyz", "ABCDEFGHIJKLMNOPQRSTUVWXYZ"
	for _, x := range []struct{ s, upper, lower string }{
		{"", "", ""}, {small, capital, small}, {capital, capital, small}, {"Hello, 1!", "HELLO, 1!", "hello, 1!"}, {"@[`{", "@[`{", "@[`{"}, {"zZaA", "ZZAA", "zzaa"},
		{"é", "é", "é"}, {"É", "É", "É"}, {"ß", "ß", "ß"}, {"ı", "ı", "ı"}, {"\u212a", "\u212a", "\u212a"}, {"a\xe4\xff\x00b", "A\xe4\xff\x00B", "a\xe4\xff\x00b"}, {"\xc1\xe1", "\xc1\xe1", "\xc1\xe1"},
	} {
		if got := str.Upper(x.s); got != x.upper {
			t.Errorf("Upper(%q): %q", x.s, got)
		}
		if got := str.Lower(x.s); got != x.lower {
			t.Errorf("Lower(%q): %q", x.s, got)
		}
	}
	for c := range 256 {
		s := string([]byte{'-', byte(c), '-'})
		upper, lower := s, s
		if at := strings.IndexByte(small, byte(c)); at >= 0 {
			upper = "-" + capital[at:at+1] + "-"
		}
		if at := strings.IndexByte(capital, byte(c)); at >= 0 {
			lower = "-" + small[at:at+1] + "-"
		}
		if got := str.Upper(s); got != upper {
			t.Errorf("Upper(%q): %q", s, got)
		}
		if got := str.Lower(s); got != lower {
			t.Errorf("Lower(%q): %q", s, got)
		}
	}
}

// P4.1, P4.5
func TestReverse(t *testing.T) {
	for s, want := range map[string]string{"": "", "a": "a", "ab": "ba", "abc": "cba", "hello": "olleh", "aa": "aa", "\x00\xff": "\xff\x00", "é": "\xa9\xc3", "日b": "b\xa5\x97\xe6"} {
		if got := str.Reverse(s); got != want {
			t.Errorf("Reverse(%q): %q", s, got)
		}
	}
	for _, s := range texts() {
		got := str.Reverse(s)
		if len(got) != len(s) {
			t.Fatalf("Reverse(%q): %q", s, got)
		}
		for at := range len(s) {
			if got[at] != s[len(s)-1-at] {
				t.Errorf("Reverse(%q): byte %d is %d", s, at, got[at])
			}
		}
		if back := str.Reverse(got); back != s {
			t.Errorf("Reverse twice of %q: %q", s, back)
		}
	}
}

// P4.2
func TestRep(t *testing.T) {
	for _, x := range []struct {
		s       string
		n       int64
		between string
		most    int
		want    string
		e       api.Errno
	}{
		{"ab", 3, "-", 8, "ab-ab-ab", api.OK}, {"ab", 3, "-", 7, "", api.ErrLong}, {"ab", 3, "-", 9, "ab-ab-ab", api.OK}, {"ab", 3, "", 6, "ababab", api.OK}, {"ab", 3, "", 5, "", api.ErrLong}, {"ab", 2, "--", 6, "ab--ab", api.OK}, {"ab", 2, "--", 5, "", api.ErrLong},
		{"ab", 1, "-", 2, "ab", api.OK}, {"ab", 1, "-", 1, "", api.ErrLong}, {"ab", 1, "long", 2, "ab", api.OK}, {"ab", 1, "", 0, "", api.ErrLong}, {"ab", 1, "", -1, "", api.ErrLong}, {"ab", 1, "", math.MinInt, "", api.ErrLong},
		{"ab", 0, "-", 0, "", api.OK}, {"ab", 0, "-", -1, "", api.OK}, {"ab", 0, "-", 99, "", api.OK}, {"ab", -1, "-", 99, "", api.OK}, {"ab", -1, "-", 0, "", api.OK}, {"ab", least, "-", 99, "", api.OK}, {"ab", least, "-", math.MinInt, "", api.OK}, {"", -1, "", 0, "", api.OK},
		{"", 1, "", 0, "", api.OK}, {"", 1, "long", 0, "", api.OK}, {"", 1, "long", -1, "", api.OK}, {"", 2, "-", 1, "-", api.OK}, {"", 2, "-", 0, "", api.ErrLong}, {"", 2, "-", -1, "", api.ErrLong}, {"", 3, ",", 2, ",,", api.OK}, {"", 3, ",", 1, "", api.ErrLong},
		{"", most, "", 0, "", api.OK}, {"", most, "", -1, "", api.OK}, {"", most, "", math.MaxInt, "", api.OK}, {"", 1 << 62, "", 99, "", api.OK}, {"", most, "", math.MinInt, "", api.OK},
		{"a", most, "", 99, "", api.ErrLong}, {"a", most, "", 0, "", api.ErrLong}, {"ab", most, "", 99, "", api.ErrLong}, {"ab", 1<<63 - 1, "cd", api.MaxStr, "", api.ErrLong}, {"", most, "-", 99, "", api.ErrLong}, {"", most, "--", 99, "", api.ErrLong},
		{"ab", 1 << 62, "", 99, "", api.ErrLong}, {"abcd", 1 << 62, "", 99, "", api.ErrLong}, {"abcd", 1<<62 + 1, "", 99, "", api.ErrLong}, {"", 1<<62 + 1, "abcd", 99, "", api.ErrLong}, {"ab", 1<<62 + 1, "cd", 99, "", api.ErrLong}, {"abcdefgh", 1 << 61, "", 99, "", api.ErrLong}, {"a", 1 << 32, "", 99, "", api.ErrLong}, {"a", 1<<32 + 1, "", 99, "", api.ErrLong},
		{"a", 5, "", 5, "aaaaa", api.OK}, {"\x00\xff", 2, "\n", 5, "\x00\xff\n\x00\xff", api.OK}, {"a", 4, "bc", math.MaxInt, "abcabcabca", api.OK}, {"abcdefgh", 2, "", 3, "", api.ErrLong},
	} {
		if got, e := str.Rep(x.s, x.n, x.between, x.most); got != x.want || e != x.e {
			t.Errorf("Rep(%q, %d, %q, %d): %q, %v", x.s, x.n, x.between, x.most, got, e)
		}
	}
}

// P4.2: copies are what a list of copies joined is, at each bound around their length.
func TestRepAndJoinAtEachBound(t *testing.T) {
	for _, s := range []string{"", "a", "ab", "\x00\xff\n", strings.Repeat("xy", 50)} {
		for _, between := range []string{"", "-", "--", "abc", strings.Repeat("z", 30)} {
			for n := range 9 {
				var want bytes.Buffer
				var l []string
				for i := range n {
					if i > 0 {
						want.WriteString(between)
					}
					want.WriteString(s)
					l = append(l, s)
				}
				for bound := -3; bound <= want.Len()+3; bound++ {
					text, errno := want.String(), api.OK
					if want.Len() > max(bound, 0) {
						text, errno = "", api.ErrLong
					}
					if got, e := str.Rep(s, int64(n), between, bound); got != text || e != errno {
						t.Errorf("Rep(%q, %d, %q, %d): %q, %v", s, n, between, bound, got, e)
					}
					if got, e := str.Join(l, between, bound); got != text || e != errno {
						t.Errorf("Join(%q, %q, %d): %q, %v", l, between, bound, got, e)
					}
				}
			}
		}
	}
}

// P4.2: lengths that are reckoned without going round, whatever n is.
func TestRepNeverGoesRound(t *testing.T) {
	for size := range 20 {
		for gap := range 20 {
			s, between := strings.Repeat("a", size), strings.Repeat("b", gap)
			if size+gap == 0 {
				continue
			}
			for _, n := range []int64{101, 1 << 31, 1 << 32, 1<<32 + 1, most / 19, most / 7, most / 3, 1 << 59, 1<<60 + 1, 1 << 61, 1<<61 + 1, 1 << 62, 1<<62 + 1, most - 1, most} {
				if got, e := str.Rep(s, n, between, 99); got != "" || e != api.ErrLong {
					t.Errorf("%d bytes %d times, %d between: %d bytes, %v", size, n, gap, len(got), e)
				}
			}
		}
	}
}

// No call panics: what may be as long as anything, but is longer than any answer, ends too.
func TestAnswersBeyondTheBoundEnd(t *testing.T) {
	if got, _ := str.Rep("ab", most, "-", math.MaxInt); len(got) > math.MaxInt32 {
		t.Error(len(got))
	}
	if got, _ := str.Rep("", 1<<40, "-", math.MaxInt); len(got) > math.MaxInt32 {
		t.Error(len(got))
	}
	if got, _ := str.Join(make([]string, 1<<16), strings.Repeat("-", 1<<16), math.MaxInt); len(got) > math.MaxInt32 {
		t.Error(len(got))
	}
}

// P4.2
func TestJoin(t *testing.T) {
	for _, x := range []struct {
		l       []string
		between string
		most    int
		want    string
		e       api.Errno
	}{
		{nil, "", 0, "", api.OK}, {nil, ",", 0, "", api.OK}, {nil, ",", -1, "", api.OK}, {[]string{}, ",", 0, "", api.OK}, {[]string{}, "long", math.MinInt, "", api.OK},
		{[]string{"ab"}, ",", 2, "ab", api.OK}, {[]string{"ab"}, ",", 1, "", api.ErrLong}, {[]string{"ab"}, "long", 3, "ab", api.OK}, {[]string{""}, "long", 0, "", api.OK}, {[]string{""}, "long", -1, "", api.OK}, {[]string{"a"}, "", -1, "", api.ErrLong}, {[]string{"a"}, "", 0, "", api.ErrLong},
		{[]string{"a", "", "b"}, ",", 4, "a,,b", api.OK}, {[]string{"a", "", "b"}, ",", 3, "", api.ErrLong}, {[]string{"a", "", "b"}, "", 2, "ab", api.OK}, {[]string{"a", "", "b"}, "", 1, "", api.ErrLong}, {[]string{"", ""}, ",", 1, ",", api.OK}, {[]string{"", ""}, ",", 0, "", api.ErrLong}, {[]string{"", ""}, "", 0, "", api.OK}, {[]string{"", "", ""}, "--", 4, "----", api.OK}, {[]string{"", "", ""}, "--", 3, "", api.ErrLong},
		{[]string{"abc", "d", "ef"}, "; ", 10, "abc; d; ef", api.OK}, {[]string{"abc", "d", "ef"}, "; ", 9, "", api.ErrLong}, {[]string{"b", "a"}, "", math.MaxInt, "ba", api.OK}, {[]string{"\xff", "\x00"}, "\n", 3, "\xff\n\x00", api.OK},
		{[]string{"long", ""}, "", 3, "", api.ErrLong}, {[]string{"", "long"}, "", 3, "", api.ErrLong}, {[]string{"long", ""}, "", 4, "long", api.OK},
	} {
		if got, e := str.Join(x.l, x.between, x.most); got != x.want || e != x.e {
			t.Errorf("Join(%q, %q, %d): %q, %v", x.l, x.between, x.most, got, e)
		}
	}
}

// What is handed in stays as it was, what stands behind its end too.
func TestJoinLeavesItsList(t *testing.T) {
	room := []string{"a", "b", "c", "d"}
	s, e := str.Join(room[:2], "-", 9)
	if s != "a-b" || e != api.OK || !slices.Equal(room, []string{"a", "b", "c", "d"}) {
		t.Error(s, e, room)
	}
	room[0] = "x"
	if s != "a-b" {
		t.Error(s)
	}
}

// found is what Find answers.
type found struct {
	from, to int64
	ok       bool
}

func find(s, what string, from int64) found {
	a, b, ok := str.Find(s, what, from)
	return found{a, b, ok}
}

// seek is the chapter's Find, place by place.
func seek(s, what string, from int64) found {
	start := begin(from, len(s))
	for p := int64(1); p <= int64(len(s))+1; p++ {
		if big.NewInt(p).Cmp(start) >= 0 && strings.HasPrefix(s[p-1:], what) {
			return found{p, p + int64(len(what)) - 1, true}
		}
	}
	return found{}
}

// P4.3
func TestFind(t *testing.T) {
	no := found{}
	for _, x := range []struct {
		s, what string
		from    int64
		want    found
	}{
		{"hello", "h", 1, found{1, 1, true}}, {"hello", "l", 1, found{3, 3, true}}, {"hello", "l", 3, found{3, 3, true}}, {"hello", "l", 4, found{4, 4, true}}, {"hello", "l", 5, no}, {"hello", "l", 6, no}, {"hello", "l", 7, no}, {"hello", "ll", 1, found{3, 4, true}}, {"hello", "ll", 4, no}, {"hello", "lo", 1, found{4, 5, true}}, {"hello", "o", 5, found{5, 5, true}}, {"hello", "o", 6, no}, {"hello", "hello", 1, found{1, 5, true}}, {"hello", "hello", 2, no}, {"hello", "hellos", 1, no}, {"hello", "x", 1, no}, {"hello", "L", 1, no}, {"hello", "los", 1, no},
		{"hello", "l", 0, found{3, 3, true}}, {"hello", "h", 0, found{1, 1, true}}, {"hello", "l", -1, no}, {"hello", "l", -2, found{4, 4, true}}, {"hello", "lo", -2, found{4, 5, true}}, {"hello", "l", -3, found{3, 3, true}}, {"hello", "h", -5, found{1, 1, true}}, {"hello", "h", -4, no}, {"hello", "h", -6, found{1, 1, true}}, {"hello", "h", -7, found{1, 1, true}}, {"hello", "h", least, found{1, 1, true}}, {"hello", "h", most, no}, {"hello", "", most, no}, {"hello", "", least, found{1, 0, true}},
		{"hello", "", 1, found{1, 0, true}}, {"hello", "", 0, found{1, 0, true}}, {"hello", "", 3, found{3, 2, true}}, {"hello", "", 5, found{5, 4, true}}, {"hello", "", 6, found{6, 5, true}}, {"hello", "", 7, no}, {"hello", "", 8, no}, {"hello", "", -1, found{5, 4, true}}, {"hello", "", -5, found{1, 0, true}}, {"hello", "", -6, found{1, 0, true}},
		{"", "", 0, found{1, 0, true}}, {"", "", 1, found{1, 0, true}}, {"", "", 2, no}, {"", "", -1, found{1, 0, true}}, {"", "", least, found{1, 0, true}}, {"", "", most, no}, {"", "a", 1, no}, {"", "a", 0, no}, {"", "a", -1, no}, {"", "a", 2, no},
		{"aaaa", "aa", 1, found{1, 2, true}}, {"aaaa", "aa", 2, found{2, 3, true}}, {"aaaa", "aa", 3, found{3, 4, true}}, {"aaaa", "aa", 4, no}, {"aabaab", "aab", 2, found{4, 6, true}}, {"ababac", "abac", 1, found{3, 6, true}}, {"aaab", "aab", 1, found{2, 4, true}},
		{"a.b", ".", 1, found{2, 2, true}}, {"a%ab", "%a", 1, found{2, 3, true}}, {"\x00\xff\x00", "\x00", 2, found{3, 3, true}}, {"é", "\xa9", 1, found{2, 2, true}}, {"a\nb", "\nb", 1, found{2, 3, true}}, {"hello", "l", 1<<32 + 1, no}, {"hello", "h", -1<<32 + 1, found{1, 1, true}},
	} {
		if got := find(x.s, x.what, x.from); got != x.want {
			t.Errorf("Find(%q, %q, %d): %v, not %v", x.s, x.what, x.from, got, x.want)
		}
	}
}

// P4.3, P4.5: what is found is what was sought, and it stands nowhere ahead of it.
func TestFindFromAllPlaces(t *testing.T) {
	for _, s := range texts() {
		whats := []string{"", "a", "b", "aa", "ab", "ba", "lo", "\x00", "\xff", "é", "\xff\x00", "\xfe\xff", "abca", "zz", "\n", "%", s, s + "a", "a" + s, s + s}
		if s != "" {
			whats = append(whats, s[1:], s[:len(s)-1], s[len(s)/2:], s[len(s)-1:], s[:1])
		}
		for _, what := range whats {
			for _, from := range places(len(s)) {
				got := find(s, what, from)
				if want := seek(s, what, from); got != want {
					t.Errorf("Find(%q, %q, %d): %v, not %v", s, what, from, got, want)
				}
				if got.ok && str.Sub(s, got.from, got.to) != what {
					t.Errorf("Find(%q, %q, %d): %v, there stands %q", s, what, from, got, str.Sub(s, got.from, got.to))
				}
			}
		}
	}
}

// P4.3: all strings of two signs, in each other.
func TestFindInAllShortStrings(t *testing.T) {
	var l []string
	for size := range 6 {
		for bits := range 1 << size {
			s := make([]byte, size)
			for at := range s {
				s[at] = "ab"[bits>>at&1]
			}
			l = append(l, string(s))
		}
	}
	for _, s := range l {
		for _, what := range l {
			for from := int64(-8); from <= 8; from++ {
				if got, want := find(s, what, from), seek(s, what, from); got != want {
					t.Errorf("Find(%q, %q, %d): %v, not %v", s, what, from, got, want)
				}
			}
		}
	}
}

// Long strings end, too.
func TestLongStrings(t *testing.T) {
	const size = 1 << 20
	many := strings.Repeat("a", size)
	if got := find(many+"b", strings.Repeat("a", size/2)+"b", 1); got != (found{size/2 + 1, size + 1, true}) {
		t.Error(got)
	}
	if got := find(many, strings.Repeat("a", size/2)+"b", 1); got != (found{}) {
		t.Error(got)
	}
	if got, e := str.Rep("a", size, "", size); got != many || e != api.OK {
		t.Error(len(got), e)
	}
	if got, e := str.Rep("a", size, "", size-1); got != "" || e != api.ErrLong {
		t.Error(len(got), e)
	}
	if got := str.Sub(many, 2, -2); len(got) != size-2 {
		t.Error(len(got))
	}
	if got, e := str.Chars(str.Bytes(many, 1, -1)); got != many || e != api.OK {
		t.Error(len(got), e)
	}
}

// The chapter's examples.
func TestExamples(t *testing.T) {
	if got := str.Sub("hello", 2, -2); got != "ell" {
		t.Error(got)
	}
	if got := find("hello", "l", 4); got != (found{4, 4, true}) {
		t.Error(got)
	}
	if got, n, e := str.Format("%d: %s%%", []api.Value{{Kind: api.Int, N: 7}, {Kind: api.Bool, N: 1}}, 99); got != "7: true%" || n != 2 || e != api.OK {
		t.Error(got, n, e)
	}
	if got, e := str.Rep("ab", 3, "-", 7); got != "" || e != api.ErrLong {
		t.Error(got, e)
	}
	if got, e := str.Rep("ab", 3, "-", 8); got != "ab-ab-ab" || e != api.OK {
		t.Error(got, e)
	}
}
