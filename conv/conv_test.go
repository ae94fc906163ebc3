package conv_test

import (
	"math"
	"math/big"
	"regexp"
	"strconv"
	"strings"
	"testing"

	"selkie/api"
	"selkie/conv"
)

const (
	least = math.MinInt64
	most  = math.MaxInt64
)

// read is what a call answers of a text.
type read struct {
	n  int64
	ok bool
}

var no = read{}

func yes(n int64) read { return read{n, true} }

func numeral(s string) read {
	n, ok := conv.Numeral(s)
	return read{n, ok}
}

func toInt(s string) read {
	n, ok := conv.ToInt(s)
	return read{n, ok}
}

func base(s string, b int64) read {
	n, ok := conv.Base(s, b)
	return read{n, ok}
}

// wrap is a whole number modulo 2^64, as a number from -2^63 on.
func wrap(n *big.Int) int64 {
	low := new(big.Int).And(n, new(big.Int).SetUint64(math.MaxUint64))
	return int64(low.Uint64())
}

func whole(s string, b int) *big.Int {
	n, ok := new(big.Int).SetString(s, b)
	if !ok {
		panic("no digits: " + s)
	}
	return n
}

// numbers are of both signs, and those around which something turns.
func numbers() []int64 {
	l := []int64{0, 1, 2, 7, 9, 10, 11, 15, 16, 17, 35, 36, 37, 99, 100, 101, 255, 256, 907, 1000, 1295, 1296, 1 << 31, 1<<31 - 1, 1 << 32, 1<<32 - 1, 1 << 53, 1<<53 + 1, 0x0123456789abcdef}
	for n := int64(10); n < most/10; n *= 10 {
		l = append(l, n-1, n, n+1)
	}
	l = append(l, most, most-1, most-2, most/2, most/10, most/10+1)
	for _, n := range l[1:] {
		l = append(l, -n)
	}
	return append(l, least)
}

// wants is what is asked of a text by the chapter's words, with numbers that don't go round and forms that are written down as such.
type wants struct {
	decimal, hex, text *regexp.Regexp
	base               [37]*regexp.Regexp
}

func newWants() *wants {
	const blank = `[\x09-\x0d\x20]*`
	w := &wants{
		decimal: regexp.MustCompile(`\A[0-9]+\z`),
		hex:     regexp.MustCompile(`\A0[xX]([0-9a-fA-F]+)\z`),
		text:    regexp.MustCompile(`\A` + blank + `([-+]?)(0[xX][0-9a-fA-F]+|[0-9]+)` + blank + `\z`),
	}
	for b := 2; b <= 36; b++ {
		var signs string
		for d := range b {
			sign := strconv.FormatInt(int64(d), 36)
			signs += sign
			if d > 9 {
				signs += strings.ToUpper(sign)
			}
		}
		w.base[b] = regexp.MustCompile(`\A` + blank + `(-?)([` + signs + `]+)` + blank + `\z`)
	}
	return w
}

func (w *wants) numeral(s string, top *big.Int) (*big.Int, bool) {
	if m := w.hex.FindStringSubmatch(s); m != nil {
		return whole(m[1], 16), true
	}
	if !w.decimal.MatchString(s) {
		return nil, false
	}
	n := whole(s, 10)
	return n, n.Cmp(top) <= 0
}

func (w *wants) ofNumeral(s string) read {
	if n, ok := w.numeral(s, big.NewInt(most)); ok {
		return yes(wrap(n))
	}
	return no
}

func (w *wants) ofText(s string) read {
	m := w.text.FindStringSubmatch(s)
	if m == nil {
		return no
	}
	top := big.NewInt(most)
	if m[1] == "-" {
		top.Add(top, big.NewInt(1))
	}
	n, ok := w.numeral(m[2], top)
	if !ok {
		return no
	}
	if m[1] == "-" {
		n.Neg(n)
	}
	return yes(wrap(n))
}

func (w *wants) ofBase(s string, b int64) read {
	if b < 2 || b > 36 {
		return no
	}
	m := w.base[b].FindStringSubmatch(s)
	if m == nil {
		return no
	}
	n := whole(m[2], int(b))
	if m[1] == "-" {
		n.Neg(n)
	}
	return yes(wrap(n))
}

// check holds all that is read of a text against what the chapter's words ask.
func (w *wants) check(t *testing.T, s string) {
	t.Helper()
	if got, want := numeral(s), w.ofNumeral(s); got != want {
		t.Errorf("Numeral(%q): %v, not %v", s, got, want)
	}
	if got, want := toInt(s), w.ofText(s); got != want {
		t.Errorf("ToInt(%q): %v, not %v", s, got, want)
	}
	for b := int64(-1); b <= 38; b++ {
		if got, want := base(s, b), w.ofBase(s, b); got != want {
			t.Errorf("Base(%q, %d): %v, not %v", s, b, got, want)
		}
	}
}

// P3.1
func TestPrint(t *testing.T) {
	for _, x := range []struct {
		n    int64
		want string
	}{
		{0, "0"}, {1, "1"}, {-1, "-1"}, {9, "9"}, {10, "10"}, {-10, "-10"}, {907, "907"}, {-7, "-7"}, {1 << 32, "4294967296"},
		{most, "9223372036854775807"}, {most - 1, "9223372036854775806"}, {least, "-9223372036854775808"}, {least + 1, "-9223372036854775807"},
	} {
		if got := conv.Print(x.n); got != x.want {
			t.Errorf("Print(%d): %q", x.n, got)
		}
	}
	form := regexp.MustCompile(`\A(0|-?[1-9][0-9]*)\z`)
	for _, n := range numbers() {
		if got := conv.Print(n); !form.MatchString(got) || got != big.NewInt(n).String() {
			t.Errorf("Print(%d): %q", n, got)
		}
	}
}

// P3.1
func TestNumeral(t *testing.T) {
	for s, want := range map[string]read{
		"0": yes(0), "7": yes(7), "9": yes(9), "10": yes(10), "1234567890": yes(1234567890), "00": yes(0), "007": yes(7), "0010": yes(10),
		"9223372036854775806": yes(most - 1), "9223372036854775807": yes(most), "9223372036854775808": no, "9223372036854775809": no, "9223372036854775810": no,
		"9999999999999999999": no, "10000000000000000000": no, "18446744073709551615": no, "18446744073709551616": no, "18446744073709551617": no, "36893488147419103232": no, "99999999999999999999": no,
		"0009223372036854775807": yes(most), "0009223372036854775808": no, strings.Repeat("0", 100): yes(0), strings.Repeat("0", 100) + "5": yes(5), strings.Repeat("9", 100): no,
		"0x0": yes(0), "0X0": yes(0), "0x1F": yes(31), "0XfF": yes(255), "0xabcdef": yes(0xabcdef), "0XABCDEF": yes(0xabcdef), "0x0000": yes(0), "0x007": yes(7), "00x7": no, "1x7": no, "x7": no, "xx7": no, "0xx7": no, "0x0x7": no,
		"0x7fffffffffffffff": yes(most), "0x8000000000000000": yes(least), "0x8000000000000001": yes(least + 1), "0xffffffffffffffff": yes(-1), "0xFFFFFFFFFFFFFFFF": yes(-1),
		"0x10000000000000000": yes(0), "0x10000000000000001": yes(1), "0x1ffffffffffffffff": yes(-1), "0x123456789abcdef0123456789abcdef": yes(0x0123456789abcdef), "0x" + strings.Repeat("0", 100) + "a": yes(10), "0x" + strings.Repeat("f", 100): yes(-1),
		"": no, "0x": no, "0X": no, "x": no, "-": no, "+": no, "-1": no, "+1": no, "-0x1": no, "0x-1": no, "0x+1": no, " 1": no, "1 ": no, "0x 1": no, "1\n": no, "1 2": no,
		"a": no, "1a": no, "a1": no, "0xg": no, "0x1g": no, "0xG": no, "1_0": no, "0x1_0": no, "1.0": no, "1e3": no, "0b1": no, "0o7": no, "0x1p4": no, "1\x00": no, "\x001": no, "1\xff": no, "٣": no, "１": no, "é": no,
	} {
		if got := numeral(s); got != want {
			t.Errorf("Numeral(%q): %v, not %v", s, got, want)
		}
	}
}

// P3.2
func TestToInt(t *testing.T) {
	for s, want := range map[string]read{
		"0": yes(0), "7": yes(7), "-7": yes(-7), "+7": yes(7), "-0": yes(0), "+0": yes(0), "007": yes(7), "-007": yes(-7), "+007": yes(7),
		"9223372036854775806": yes(most - 1), "9223372036854775807": yes(most), "9223372036854775808": no, "9223372036854775809": no,
		"+9223372036854775806": yes(most - 1), "+9223372036854775807": yes(most), "+9223372036854775808": no, "+9223372036854775809": no,
		"-9223372036854775806": yes(least + 2), "-9223372036854775807": yes(least + 1), "-9223372036854775808": yes(least), "-9223372036854775809": no, "-9223372036854775810": no,
		"-0009223372036854775808": yes(least), "-0009223372036854775809": no, "-" + strings.Repeat("0", 100) + "9223372036854775808": yes(least),
		"-18446744073709551615": no, "-18446744073709551616": no, "-18446744073709551617": no, "-9999999999999999999": no, "-99999999999999999999": no,
		"0x10": yes(16), "-0x10": yes(-16), "+0X1f": yes(31), "-0x0": yes(0), "-0x7fffffffffffffff": yes(-most), "-0x8000000000000000": yes(least), "-0x8000000000000001": yes(most), "+0x8000000000000000": yes(least),
		"-0xffffffffffffffff": yes(1), "-0XFFFFFFFFFFFFFFFF": yes(1), "+0xffffffffffffffff": yes(-1), "-0x10000000000000000": yes(0), "-0x1000000000000000f": yes(-15),
		"": no, "-": no, "+": no, "0x": no, "-0x": no, "+0X": no, "- 5": no, "+ 5": no, "--5": no, "++5": no, "-+5": no, "+-5": no, "---5": no, "5-": no, "5+": no, "-5-": no, "0x-5": no, "- 0x5": no,
		"1a": no, "a": no, "ff": no, "1_0": no, "1.5": no, "1e3": no, "0b1": no, "1 2": no, "1\t2": no, "0x 1": no, "0 x1": no, "\x001": no, "1\x00": no, "\xa01": no, "1\u00a0": no, "\u00851": no, "1\u2003": no, "−5": no,
	} {
		if got := toInt(s); got != want {
			t.Errorf("ToInt(%q): %v, not %v", s, got, want)
		}
	}
}

// P3.2, P3.4
func TestBlanksAtBothEnds(t *testing.T) {
	blanks := []string{"\x09", "\x0a", "\x0b", "\x0c", "\x0d", "\x20", "\t\n\v\f\r ", "  ", "\r\n", strings.Repeat(" ", 500)}
	for _, b := range blanks {
		for _, s := range []string{b + "12", "12" + b, b + "12" + b, b + b + "12"} {
			if toInt(s) != yes(12) || base(s, 10) != yes(12) || base(s, 3) != yes(5) || numeral(s) != no {
				t.Errorf("%q: ToInt %v, Base %v and %v, Numeral %v", s, toInt(s), base(s, 10), base(s, 3), numeral(s))
			}
		}
		if s := b + "-12" + b; toInt(s) != yes(-12) || base(s, 10) != yes(-12) {
			t.Errorf("%q: ToInt %v, Base %v", s, toInt(s), base(s, 10))
		}
		if s := b + "+0xC" + b; toInt(s) != yes(12) || base(s, 36) != no {
			t.Errorf("%q: ToInt %v, Base %v", s, toInt(s), base(s, 36))
		}
		for _, s := range []string{b, b + b, "1" + b + "2", "-" + b + "1", "+" + b + "1", "0" + b + "x1", "0x" + b + "1", b + "-", "-" + b, b + "+" + b, b + "0x" + b} {
			if got := toInt(s); got != no {
				t.Errorf("ToInt(%q): %v", s, got)
			}
		}
		for _, s := range []string{b, b + b, "1" + b + "2", "-" + b + "1", b + "-", "-" + b, b + "-" + b} {
			if got := base(s, 10); got != no {
				t.Errorf("Base(%q, 10): %v", s, got)
			}
		}
	}
}

// P3.2, P3.4
func TestOnlySixBytesAreBlanks(t *testing.T) {
	for c := range 256 {
		blank := c >= 9 && c <= 13 || c == 32
		sign := c == '-' || c == '+'
		digit := c >= '0' && c <= '9'
		for _, s := range []string{string([]byte{byte(c), '1'}), string([]byte{'1', byte(c)})} {
			ok := blank || digit || sign && s[0] == byte(c)
			if got := toInt(s); got.ok != ok {
				t.Errorf("ToInt(%q): %v", s, got)
			}
			if got := base(s, 10); got.ok != (ok && s[0] != '+') {
				t.Errorf("Base(%q, 10): %v", s, got)
			}
		}
	}
}

// valuesOf are values of a Kind, with the fields that it doesn't name filled too.
func valuesOf(kind int) []api.Value {
	var l []api.Value
	for _, n := range []int64{0, 1, -1, 42, 1 << 32, most, least} {
		for _, s := range []string{"", "7", "-0x10", " 5 ", "x", "\x00"} {
			l = append(l, api.Value{Kind: kind, N: n, S: s})
		}
	}
	return l
}

// P3.3
func TestNumber(t *testing.T) {
	for _, v := range valuesOf(api.Int) {
		if n, ok := conv.Number(v); n != v.N || !ok {
			t.Errorf("Number(%+v): %d, %v", v, n, ok)
		}
	}
	texts := map[string]read{
		"": no, "7": yes(7), "-0x10": yes(-16), " 5 ": yes(5), "x": no, "\x00": no, "1a": no, "+3": yes(3), "--3": no, " ": no, "0x": no,
		"9223372036854775807": yes(most), "9223372036854775808": no, "-9223372036854775808": yes(least), "-9223372036854775809": no, "0xffffffffffffffff": yes(-1), "\v\f7\r\n": yes(7),
	}
	for s, want := range texts {
		for _, n := range []int64{0, 9, -1, least} {
			v := api.Value{Kind: api.Str, N: n, S: s}
			if n, ok := conv.Number(v); (read{n, ok}) != want {
				t.Errorf("Number(%+v): %d, %v, not %v", v, n, ok, want)
			}
		}
	}
}

// P3.3
func TestString(t *testing.T) {
	for _, v := range valuesOf(api.Int) {
		if s, ok := conv.String(v); s != strconv.FormatInt(v.N, 10) || !ok {
			t.Errorf("String(%+v): %q, %v", v, s, ok)
		}
	}
	for _, v := range valuesOf(api.Str) {
		if s, ok := conv.String(v); s != v.S || !ok {
			t.Errorf("String(%+v): %q, %v", v, s, ok)
		}
	}
	for _, text := range []string{" a ", "007", "\xff\x00é", strings.Repeat("z", api.MaxStr+1)} {
		if s, ok := conv.String(api.Value{Kind: api.Str, S: text}); s != text || !ok {
			t.Errorf("String of a text of %d bytes: %d bytes, %v", len(text), len(s), ok)
		}
	}
}

// P3.3
func TestValuesThatAreNeither(t *testing.T) {
	kinds := []int{api.Nil, api.Bool, api.Table, api.Func, api.Builtin, api.Thread, -1, -2, -3, 8, 9, 256 + api.Int, 256 + api.Str, 1<<32 + api.Int, 1<<32 + api.Str, math.MaxInt, math.MinInt}
	for _, kind := range kinds {
		for _, v := range valuesOf(kind) {
			if n, ok := conv.Number(v); n != 0 || ok {
				t.Errorf("Number(%+v): %d, %v", v, n, ok)
			}
			if s, ok := conv.String(v); s != "" || ok {
				t.Errorf("String(%+v): %q, %v", v, s, ok)
			}
		}
	}
}

// P3.4
func TestBase(t *testing.T) {
	for _, x := range []struct {
		s    string
		base int64
		want read
	}{
		{"zz", 36, yes(1295)}, {"ZZ", 36, yes(1295)}, {"zZ", 36, yes(1295)}, {"-zz", 36, yes(-1295)}, {"z", 35, no}, {"Z", 35, no}, {"y", 35, yes(34)},
		{"0", 2, yes(0)}, {"101", 2, yes(5)}, {"-101", 2, yes(-5)}, {"12", 2, no}, {"2", 2, no}, {"12", 3, yes(5)}, {"777", 8, yes(511)}, {"8", 8, no}, {"a", 10, no}, {"A", 11, yes(10)}, {"ff", 16, yes(255)}, {"fF", 16, yes(255)}, {"g", 16, no}, {"G", 16, no}, {"g", 17, yes(16)},
		{"000", 2, yes(0)}, {"-0", 10, yes(0)}, {"007", 10, yes(7)}, {"-00012", 10, yes(-12)}, {" -ff\n", 16, yes(-255)},
		{"0x10", 16, no}, {"0x10", 33, no}, {"0x10", 34, yes(33*34*34 + 34)}, {"0X10", 36, yes(33*36*36 + 36)}, {"1e3", 10, no}, {"1e3", 15, yes(225 + 14*15 + 3)},
		{"9223372036854775807", 10, yes(most)}, {"9223372036854775808", 10, yes(least)}, {"9223372036854775809", 10, yes(least + 1)}, {"-9223372036854775808", 10, yes(least)}, {"-9223372036854775809", 10, yes(most)},
		{"18446744073709551615", 10, yes(-1)}, {"18446744073709551616", 10, yes(0)}, {"18446744073709551617", 10, yes(1)}, {"-18446744073709551615", 10, yes(1)}, {"-18446744073709551616", 10, yes(0)}, {"-18446744073709551617", 10, yes(-1)},
		{"7fffffffffffffff", 16, yes(most)}, {"8000000000000000", 16, yes(least)}, {"-8000000000000000", 16, yes(least)}, {"ffffffffffffffff", 16, yes(-1)}, {"-ffffffffffffffff", 16, yes(1)}, {"1ffffffffffffffff", 16, yes(-1)},
		{strings.Repeat("1", 63), 2, yes(most)}, {strings.Repeat("1", 64), 2, yes(-1)}, {"1" + strings.Repeat("0", 63), 2, yes(least)}, {"1" + strings.Repeat("0", 64), 2, yes(0)}, {strings.Repeat("1", 500), 2, yes(-1)}, {strings.Repeat("0", 500) + "1", 36, yes(1)},
		{"", 10, no}, {"-", 10, no}, {"--1", 10, no}, {"+", 10, no}, {"+1", 10, no}, {"-+1", 10, no}, {"+-1", 10, no}, {"1-", 10, no}, {"1-1", 36, no}, {"- 1", 10, no}, {"1 1", 10, no}, {"1_0", 36, no}, {"1.0", 10, no}, {"1\x00", 10, no}, {"\xff", 36, no}, {"é", 36, no}, {"１", 36, no}, {"\u00a01", 10, no},
	} {
		if got := base(x.s, x.base); got != x.want {
			t.Errorf("Base(%q, %d): %v, not %v", x.s, x.base, got, x.want)
		}
	}
}

// P3.4
func TestBasesThatAreNone(t *testing.T) {
	for _, b := range []int64{least, least + 1, least + 10, -1 << 32, -1<<32 + 10, -36, -10, -2, -1, 0, 1, 37, 38, 62, 64, 100, 256 + 10, 1<<32 + 10, 1 << 62, most - 1, most} {
		for _, s := range []string{"", "0", "1", "-0", "-1", " 0 ", "a", "zz", "10"} {
			if got := base(s, b); got != no {
				t.Errorf("Base(%q, %d): %v", s, b, got)
			}
		}
	}
}

// P3.4
func TestEachByteInEachBase(t *testing.T) {
	for b := int64(2); b <= 36; b++ {
		for c := range 256 {
			d := int64(99)
			switch {
			case c >= '0' && c <= '9':
				d = int64(c - '0')
			case c >= 'a' && c <= 'z':
				d = int64(c-'a') + 10
			case c >= 'A' && c <= 'Z':
				d = int64(c-'A') + 10
			}
			one, wantOne := string([]byte{byte(c)}), no
			in, wantIn := string([]byte{'-', '1', byte(c), '1'}), no
			if d < b {
				wantOne, wantIn = yes(d), yes(-(b*b + d*b + 1))
			}
			if got := base(one, b); got != wantOne {
				t.Errorf("Base(%q, %d): %v, not %v", one, b, got, wantOne)
			}
			if got := base(in, b); got != wantIn {
				t.Errorf("Base(%q, %d): %v, not %v", in, b, got, wantIn)
			}
		}
	}
}

// P3.4
func TestNumbersOfEachBase(t *testing.T) {
	round := new(big.Int).Lsh(big.NewInt(1), 64)
	for b := 2; b <= 36; b++ {
		for _, n := range numbers() {
			for times := range int64(4) {
				x := new(big.Int).Mul(round, big.NewInt(times*times*times))
				if n < 0 {
					x.Neg(x)
				}
				s := x.Add(x, big.NewInt(n)).Text(b)
				for _, s := range []string{s, strings.ToUpper(s), strings.Replace(s, "-", "-000", 1), " " + s + "\n"} {
					if got := base(s, int64(b)); got != yes(n) {
						t.Errorf("Base(%q, %d): %v, not %d", s, b, got, n)
					}
				}
			}
		}
	}
}

// P3.5
func TestWhatIsPrintedIsRead(t *testing.T) {
	for _, n := range numbers() {
		s := conv.Print(n)
		if got := toInt(s); got != yes(n) {
			t.Errorf("ToInt(%q): %v", s, got)
		}
		if got := base(s, 10); got != yes(n) {
			t.Errorf("Base(%q, 10): %v", s, got)
		}
		want := no
		if n >= 0 {
			want = yes(n)
		}
		if got := numeral(s); got != want {
			t.Errorf("Numeral(%q): %v", s, got)
		}
		text, ok := conv.String(api.Value{Kind: api.Int, N: n})
		back, is := conv.Number(api.Value{Kind: api.Str, S: text})
		if !ok || !is || back != n {
			t.Errorf("%d as a string and back: %q, %v, %d, %v", n, text, ok, back, is)
		}
	}
}

// P3.1, P3.2, P3.4
func TestTextsMadeOfPieces(t *testing.T) {
	w := newWants()
	bodies := []string{
		"", "0", "7", "00", "08", "12", "ff", "1a", "zZ", "0x", "0X", "0xF", "0Xf0", "00x1", "0x0x1", "x", "1_0", "1 2", "1-2", "1+2",
		"9223372036854775807", "9223372036854775808", "9223372036854775809", "18446744073709551616", "18446744073709551623", "0009223372036854775808", "27670116110564327424", "100000000000000000000",
		"0x7fffffffffffffff", "0x8000000000000000", "0xFFFFFFFFFFFFFFFF", "0x1000000000000000a", "0xfffffffffffffffff1",
	}
	ends := []string{"", " ", "\t\r\n\v\f ", "\x08", "\x0e", "\x1f", "!", "\x00", "\u0085", "\u00a0"}
	for _, ahead := range ends {
		for _, sign := range []string{"", "-", "+", "--", "-+", "+-", "++", "- ", "+ ", "−"} {
			for _, body := range bodies {
				for _, behind := range []string{"", " ", "\t\r\n\v\f ", "\x08", "-", "\x00", "\u0085"} {
					w.check(t, ahead+sign+body+behind)
				}
			}
		}
	}
}

// P3.1, P3.2, P3.4
func TestEachByteAtEachPlace(t *testing.T) {
	w := newWants()
	for _, s := range []string{"", "1", "-1", "+1", "0x1", " 1 ", "-0Xa ", "10", "922337203685477580", "-922337203685477580"} {
		for at := range len(s) + 1 {
			for c := range 256 {
				w.check(t, s[:at]+string([]byte{byte(c)})+s[at:])
			}
		}
	}
}

// P3.1, P3.2, P3.4
func TestAllShortTexts(t *testing.T) {
	w := newWants()
	const signs = "0179aFxXgzZ-+ \t_"
	l := []string{""}
	for range 4 {
		var longer []string
		for _, s := range l {
			w.check(t, s)
			for _, c := range []byte(signs) {
				longer = append(longer, s+string([]byte{c}))
			}
		}
		l = longer
	}
	for _, s := range l {
		if got, want := toInt(s), w.ofText(s); got != want {
			t.Errorf("ToInt(%q): %v, not %v", s, got, want)
		}
		if got, want := numeral(s), w.ofNumeral(s); got != want {
			t.Errorf("Numeral(%q): %v, not %v", s, got, want)
		}
		for _, b := range []int64{2, 10, 16, 34, 36} {
			if got, want := base(s, b), w.ofBase(s, b); got != want {
				t.Errorf("Base(%q, %d): %v, not %v", s, b, got, want)
			}
		}
	}
}

// P3.1, P3.2: the edge of decimal digits, by one and one, and where their number has gone round.
func TestDecimalDigitsAroundTheEdges(t *testing.T) {
	w := newWants()
	for _, bits := range []uint{62, 63, 64, 65, 66, 127, 128} {
		edge := new(big.Int).Lsh(big.NewInt(1), bits)
		for by := int64(-20); by <= 20; by++ {
			s := new(big.Int).Add(edge, big.NewInt(by)).String()
			for _, sign := range []string{"", "-", "+"} {
				w.check(t, sign+s)
				w.check(t, sign+"00"+s)
			}
		}
	}
	for length := 1; length <= 45; length++ {
		for _, c := range []string{"0", "1", "8", "9"} {
			for _, sign := range []string{"", "-", "+"} {
				w.check(t, sign+strings.Repeat(c, length))
				w.check(t, sign+"1"+strings.Repeat(c, length))
			}
		}
	}
}

// Long texts end, too, and blanks are no matter of how many there are.
func TestLongTexts(t *testing.T) {
	const size = 1 << 20
	many := strings.Repeat(" ", size)
	if got := toInt(many + "5" + many); got != yes(5) {
		t.Errorf("ToInt of 5 with blanks: %v", got)
	}
	if got := toInt(many + many); got != no {
		t.Errorf("ToInt of blanks: %v", got)
	}
	if got := toInt("-" + strings.Repeat("0", size) + "9223372036854775808"); got != yes(least) {
		t.Errorf("ToInt of noughts and the least number: %v", got)
	}
	if got := numeral("0x" + strings.Repeat("f", size)); got != yes(-1) {
		t.Errorf("Numeral of many f: %v", got)
	}
	if got := base(strings.Repeat("9", size)+"a", 10); got != no {
		t.Errorf("Base of many 9 and an a: %v", got)
	}
}

// The chapter's examples.
func TestExamples(t *testing.T) {
	if got := toInt(" -0x10 "); got != yes(-16) {
		t.Error(got)
	}
	if got := numeral("9223372036854775808"); got != no {
		t.Error(got)
	}
	if got := toInt("-9223372036854775808"); got != yes(least) {
		t.Error(got)
	}
	if got := base("zz", 36); got != yes(1295) {
		t.Error(got)
	}
	if n, ok := conv.Number(api.Value{Kind: api.Str, S: "1a"}); n != 0 || ok {
		t.Error(n, ok)
	}
}
