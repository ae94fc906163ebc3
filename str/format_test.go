package str_test

import (
	"fmt"
	"math"
	"math/big"
	"slices"
	"strings"
	"testing"

	"selkie/api"
	"selkie/str"
)

func number(n int64) api.Value { return api.Value{Kind: api.Int, N: n} }

func text(s string) api.Value { return api.Value{Kind: api.Str, S: s} }

func list(l ...api.Value) []api.Value { return l }

// put is what Format answers.
type put struct {
	s string
	n int
	e api.Errno
}

func format(f string, l []api.Value, bound int) put {
	s, n, e := str.Format(f, l, bound)
	return put{s, n, e}
}

func fine(s string, n int) put { return put{s, n, api.OK} }

func bad(n int, e api.Errno) put { return put{"", n, e} }

// asNumber is a value as a number, of the few texts that these tests have.
func asNumber(v api.Value) (int64, bool) {
	switch v.Kind {
	case api.Int:
		return v.N, true
	case api.Str:
		n, ok := map[string]int64{"7": 7, " -0x10 ": -16, "105": 105, "255": 255, "256": 256, "-1": -1, "-9223372036854775808": least, "0xffffffffffffffff": -1}[v.S]
		return n, ok
	}
	return 0, false
}

// shown is what the chapter asks of a sign and a value, written otherwise than the program does.
func shown(sign byte, v api.Value) (string, bool) {
	n, isNumber := asNumber(v)
	switch sign {
	case 'd':
		return big.NewInt(n).String(), isNumber
	case 'x':
		bits := new(big.Int).And(big.NewInt(n), new(big.Int).SetUint64(math.MaxUint64))
		return bits.Text(16), isNumber
	case 'c':
		return string([]byte{byte(n)}), isNumber && n >= 0 && n < 256
	case 'q':
		s := v.S
		for _, x := range []struct{ from, to string }{{"\\", "\\\\"}, {"\"", "\\\""}, {"\n", "\\n"}, {"\r", "\\r"}, {"\x00", "\\x00"}} {
			s = strings.ReplaceAll(s, x.from, x.to)
		}
		return "\"" + s + "\"", v.Kind == api.Str
	}
	switch v.Kind {
	case api.Nil:
		return "nil", true
	case api.Bool:
		return fmt.Sprint(v.N != 0), true
	case api.Int:
		return fmt.Sprint(v.N), true
	case api.Str:
		return v.S, true
	}
	return map[int]string{api.Table: "table", api.Func: "function", api.Builtin: "function", api.Thread: "thread"}[v.Kind], true
}

// wanted is the chapter's Format, byte by byte, each error as soon as it comes.
func wanted(f string, l []api.Value, bound int) put {
	out, used := "", 0
	for at := 0; at < len(f); at++ {
		came := f[at : at+1]
		if came == "%" {
			at++
			switch {
			case at == len(f) || !strings.Contains("%dxscq", f[at:at+1]):
				return bad(0, api.ErrForm)
			case f[at] != '%':
				if used++; used > len(l) {
					return bad(used, api.ErrNone)
				}
				s, ok := shown(f[at], l[used-1])
				if !ok {
					return bad(used, api.ErrValue)
				}
				came = s
			}
		}
		if out += came; len(out) > max(bound, 0) {
			return bad(0, api.ErrLong)
		}
	}
	return fine(out, used)
}

// values are of every Kind, strange ones too, with the fields that a Kind doesn't name filled.
func values() []api.Value {
	l := []api.Value{{}, {Kind: api.Nil, N: 7, S: "7"}, {Kind: api.Bool, S: "7"}, {Kind: api.Bool, N: 1}, {Kind: api.Bool, N: -2, S: "7"}}
	for _, n := range []int64{0, 1, 9, 10, 15, 16, 104, 254, 255, 256, 257, 512 + 65, -1, -2, -16, -255, -256, 1 << 31, 1 << 32, 1<<32 + 65, -1<<32 + 65, 0x0123456789abcdef, least, least + 1, least + 65, most, most - 1} {
		l = append(l, api.Value{Kind: api.Int, N: n}, api.Value{Kind: api.Int, N: n, S: "x"})
	}
	for _, s := range []string{"", "7", " -0x10 ", "105", "255", "256", "-1", "-9223372036854775808", "0xffffffffffffffff", "x", "1a", "-", "%d", "é", "a\"\\\n\r\x00b", allBytes()} {
		l = append(l, api.Value{Kind: api.Str, S: s}, api.Value{Kind: api.Str, N: 65, S: s})
	}
	for _, kind := range []int{api.Table, api.Func, api.Builtin, api.Thread, -1, 8, 256 + api.Int, 256 + api.Str, 1<<32 + api.Str, math.MaxInt, math.MinInt} {
		l = append(l, api.Value{Kind: kind, N: 65, S: "7"}, api.Value{Kind: kind})
	}
	return l
}

// P4.4
func TestFormat(t *testing.T) {
	truth := api.Value{Kind: api.Bool, N: 1}
	for _, x := range []struct {
		f    string
		l    []api.Value
		want put
	}{
		{"", nil, fine("", 0)}, {"", list(number(1)), fine("", 0)}, {"abc", nil, fine("abc", 0)}, {"abc", list(number(1), number(2)), fine("abc", 0)}, {"\x00\xffé\n", nil, fine("\x00\xffé\n", 0)}, {"dxscq", nil, fine("dxscq", 0)},
		{"%%", nil, fine("%", 0)}, {"%%%%", nil, fine("%%", 0)}, {"a%%b", list(number(1)), fine("a%b", 0)}, {"%%d", list(number(1)), fine("%d", 0)}, {"%%%d", list(number(1)), fine("%1", 1)}, {"%d%%", list(number(1)), fine("1%", 1)},
		{"%d: %s%%", list(number(7), truth), fine("7: true%", 2)}, {"%s%s%s", list(number(1), text("b"), truth), fine("1btrue", 3)}, {"<%s>", list(text("")), fine("<>", 1)}, {"%s", list(text("%d")), fine("%d", 1)}, {"%s", list(text("%d"), number(1)), fine("%d", 1)}, {"%dd", list(number(5)), fine("5d", 1)},
		{"%d", list(number(0)), fine("0", 1)}, {"%d", list(number(-7)), fine("-7", 1)}, {"%d", list(number(least)), fine("-9223372036854775808", 1)}, {"%d", list(number(most)), fine("9223372036854775807", 1)}, {"%d", list(text(" -0x10 ")), fine("-16", 1)}, {"%d", list(text("007")), fine("7", 1)},
		{"%x", list(number(0)), fine("0", 1)}, {"%x", list(number(255)), fine("ff", 1)}, {"%x", list(number(0xabcdef)), fine("abcdef", 1)}, {"%x", list(number(-1)), fine("ffffffffffffffff", 1)}, {"%x", list(number(-16)), fine("fffffffffffffff0", 1)}, {"%x", list(number(least)), fine("8000000000000000", 1)}, {"%x", list(number(most)), fine("7fffffffffffffff", 1)}, {"%x", list(text("+31")), fine("1f", 1)},
		{"%c", list(number(0)), fine("\x00", 1)}, {"%c", list(number(255)), fine("\xff", 1)}, {"%c%c", list(number(104), text("0x69")), fine("hi", 2)}, {"%c", list(number(37)), fine("%", 1)}, {"%cd", list(number(37)), fine("%d", 1)},
		{"%q", list(text("")), fine(`""`, 1)}, {"%q", list(text("ab c")), fine(`"ab c"`, 1)}, {"%q", list(text("a\"\\\n\r\x00")), fine(`"a\"\\\n\r\x00"`, 1)}, {"%q", list(text("\x000")), fine(`"\x000"`, 1)}, {"%q", list(text("\t\xff'é%d")), fine("\"\t\xff'é%d\"", 1)}, {"%q", list(text("7")), fine(`"7"`, 1)},
		{"%d%s", list(number(1), number(2), number(3)), fine("12", 2)},
	} {
		if got := format(x.f, x.l, 99); got != x.want {
			t.Errorf("Format(%q, %v, 99): %v, not %v", x.f, x.l, got, x.want)
		}
	}
}

// P4.4
func TestFormatsThatAreRefused(t *testing.T) {
	table := api.Value{Kind: api.Table, N: 65}
	for _, x := range []struct {
		f     string
		l     []api.Value
		bound int
		want  put
	}{
		{"%", nil, 99, bad(0, api.ErrForm)}, {"abc%", nil, 99, bad(0, api.ErrForm)}, {"%%%", nil, 99, bad(0, api.ErrForm)}, {"%z", nil, 99, bad(0, api.ErrForm)}, {"%z", list(number(1)), 99, bad(0, api.ErrForm)}, {"%D", list(number(1)), 99, bad(0, api.ErrForm)}, {"%5d", list(number(1)), 99, bad(0, api.ErrForm)}, {"% d", list(number(1)), 99, bad(0, api.ErrForm)}, {"%-d", list(number(1)), 99, bad(0, api.ErrForm)}, {"%i", list(number(1)), 99, bad(0, api.ErrForm)}, {"%X", list(number(1)), 99, bad(0, api.ErrForm)}, {"%\x00", nil, 99, bad(0, api.ErrForm)}, {"%d%z", list(number(1)), 99, bad(0, api.ErrForm)}, {"%d%", list(number(1)), 99, bad(0, api.ErrForm)}, {"%d%d%", list(number(1), number(2)), 99, bad(0, api.ErrForm)},
		{"%d", nil, 99, bad(1, api.ErrNone)}, {"%x", nil, 99, bad(1, api.ErrNone)}, {"%s", []api.Value{}, 99, bad(1, api.ErrNone)}, {"%c", nil, 99, bad(1, api.ErrNone)}, {"%q", nil, 99, bad(1, api.ErrNone)}, {"%d%d", list(number(1)), 99, bad(2, api.ErrNone)}, {"%s%s%s", list(number(1), number(2)), 99, bad(3, api.ErrNone)}, {"%%%d", nil, 99, bad(1, api.ErrNone)},
		{"%d", list(text("x")), 99, bad(1, api.ErrValue)}, {"%x", list(text("")), 99, bad(1, api.ErrValue)}, {"%d", list(table), 99, bad(1, api.ErrValue)}, {"%s%d", list(number(1), text("x")), 99, bad(2, api.ErrValue)}, {"%c", list(number(256)), 99, bad(1, api.ErrValue)}, {"%c", list(number(-1)), 99, bad(1, api.ErrValue)}, {"%c", list(text("256")), 99, bad(1, api.ErrValue)}, {"%c", list(text("a")), 99, bad(1, api.ErrValue)}, {"%q", list(number(1)), 99, bad(1, api.ErrValue)}, {"%q", list(api.Value{}), 99, bad(1, api.ErrValue)}, {"%d%s%q", list(number(1), number(2), number(3)), 99, bad(3, api.ErrValue)},
		{"abc", nil, 2, bad(0, api.ErrLong)}, {"a", nil, 0, bad(0, api.ErrLong)}, {"a", nil, -1, bad(0, api.ErrLong)}, {"%%", nil, 0, bad(0, api.ErrLong)}, {"%d", list(number(10)), 1, bad(0, api.ErrLong)}, {"%q", list(text("")), 1, bad(0, api.ErrLong)}, {"%q", list(text("\x00")), 5, bad(0, api.ErrLong)}, {"%s%s", list(text("ab"), text("c")), 2, bad(0, api.ErrLong)}, {"%c", list(number(0)), 0, bad(0, api.ErrLong)}, {"%s", list(api.Value{}), 2, bad(0, api.ErrLong)}, {"%x", list(number(-1)), 15, bad(0, api.ErrLong)},
		// Which comes first, from the front.
		{"abc%z", nil, 2, bad(0, api.ErrLong)}, {"abc%z", nil, 3, bad(0, api.ErrForm)}, {"abc%d", nil, 2, bad(0, api.ErrLong)}, {"abc%d", nil, 3, bad(1, api.ErrNone)}, {"abc%d", list(table), 2, bad(0, api.ErrLong)}, {"abc%d", list(table), 3, bad(1, api.ErrValue)}, {"%dabc%z", nil, 0, bad(1, api.ErrNone)}, {"%zabc%d", nil, 0, bad(0, api.ErrForm)}, {"%q%z", list(table), 0, bad(1, api.ErrValue)}, {"%z%q", list(table), 0, bad(0, api.ErrForm)}, {"%d%q", list(number(1), table), 0, bad(0, api.ErrLong)}, {"%d%q", list(number(1), table), 1, bad(2, api.ErrValue)}, {"%q%d", list(table), 0, bad(1, api.ErrValue)}, {"%d%d%q", list(number(1)), 1, bad(2, api.ErrNone)}, {"%c%d", list(number(256), number(10)), 0, bad(1, api.ErrValue)}, {"%s%", list(text("")), 0, bad(0, api.ErrForm)}, {"%", nil, -1, bad(0, api.ErrForm)}, {"%d", nil, -1, bad(1, api.ErrNone)}, {"%d", list(table), math.MinInt, bad(1, api.ErrValue)},
	} {
		if got := format(x.f, x.l, x.bound); got != x.want {
			t.Errorf("Format(%q, %v, %d): %v, not %v", x.f, x.l, x.bound, got, x.want)
		}
	}
}

// P4.4: a most below 0 counts as 0, and just so many bytes may come out.
func TestFormatsAtTheBound(t *testing.T) {
	for _, bound := range []int{math.MinInt, -2, -1, 0, 1, math.MaxInt} {
		if got := format("", nil, bound); got != fine("", 0) {
			t.Errorf("nothing, at most %d: %v", bound, got)
		}
		if got := format("%s%s", list(text(""), text("")), bound); got != fine("", 2) {
			t.Errorf("nothing put in twice, at most %d: %v", bound, got)
		}
	}
	for _, f := range []string{"abc", "%%%%", "%d", "a%db", "%x", "%s", "%c%c", "%q", "%s-%q-%%"} {
		l := list(text("105"), text("7"), number(1))
		full := wanted(f, l, math.MaxInt)
		if full.e != api.OK {
			t.Fatalf("%q: %v", f, full)
		}
		for bound := -2; bound <= len(full.s)+2; bound++ {
			want := full
			if len(full.s) > max(bound, 0) {
				want = bad(0, api.ErrLong)
			}
			if got := format(f, l, bound); got != want {
				t.Errorf("Format(%q, %v, %d): %v, not %v", f, l, bound, got, want)
			}
		}
	}
	if got := format("%s", list(text("ab")), math.MaxInt); got != fine("ab", 1) {
		t.Error(got)
	}
}

// P4.4
func TestEachSignWithEachValue(t *testing.T) {
	for _, sign := range []string{"%d", "%x", "%s", "%c", "%q"} {
		for _, v := range values() {
			for _, f := range []string{sign, "<" + sign + ">", sign + "%s", "%s" + sign} {
				for _, l := range [][]api.Value{list(v), list(v, v), list(number(1), v, text("z"))} {
					for _, bound := range []int{0, 1, 3, 20, 9999} {
						if got, want := format(f, l, bound), wanted(f, l, bound); got != want {
							t.Errorf("Format(%q, %v, %d): %v, not %v", f, l, bound, got, want)
						}
					}
				}
			}
		}
	}
}

// P4.4
func TestEachByteBehindPercent(t *testing.T) {
	l := list(text("105"), number(7))
	for c := range 256 {
		one := string([]byte{'%', byte(c)})
		for _, f := range []string{one, "a" + one, one + "b", one + "%d", "%d" + one, "%%" + one} {
			for used := range 3 {
				if got, want := format(f, l[:used], 99), wanted(f, l[:used], 99); got != want {
					t.Errorf("Format(%q, %v, 99): %v, not %v", f, l[:used], got, want)
				}
			}
		}
	}
}

// P4.4
func TestEachByteInQuotes(t *testing.T) {
	for c := range 256 {
		one := string([]byte{byte(c)})
		want := one
		switch c {
		case 34, 92:
			want = string([]byte{92, byte(c)})
		case 10:
			want = string([]byte{92, 'n'})
		case 13:
			want = string([]byte{92, 'r'})
		case 0:
			want = string([]byte{92, 'x', '0', '0'})
		}
		for _, around := range []string{"", "a", "\\", "\x00"} {
			edge, _ := shown('q', text(around))
			edge = edge[1 : len(edge)-1]
			if got := format("%q", list(text(around+one+around)), 99); got != fine("\""+edge+want+edge+"\"", 1) {
				t.Errorf("the byte %d between %q in quotes: %v", c, around, got)
			}
		}
	}
}

// P4.4
func TestAllShortFormats(t *testing.T) {
	lists := [][]api.Value{nil, list(number(7)), list(text("x")), list(text("105"), number(-1)), list(number(300), text("7")), list(text("a\n"), api.Value{Kind: api.Table}, number(65))}
	l := []string{""}
	for range 6 {
		var longer []string
		for _, f := range l {
			for _, values := range lists {
				for _, bound := range []int{-1, 0, 1, 2, 4, 99} {
					if got, want := format(f, values, bound), wanted(f, values, bound); got != want {
						t.Fatalf("Format(%q, %v, %d): %v, not %v", f, values, bound, got, want)
					}
				}
			}
			for _, c := range []byte("%dxscqz") {
				longer = append(longer, f+string([]byte{c}))
			}
		}
		l = longer
	}
}

// What is handed in stays as it was, what stands behind its end too, and isn't asked.
func TestFormatLeavesItsList(t *testing.T) {
	was := list(number(1), text("b"), number(3), text("d"))
	room := slices.Clone(was)
	if got := format("%d%s", room[:2], 9); got != fine("1b", 2) || !slices.Equal(room, was) {
		t.Error(got, room)
	}
	if got := format("%d%s%d", room[:2], 9); got != bad(3, api.ErrNone) || !slices.Equal(room, was) {
		t.Error(got, room)
	}
}

// Many values end, too.
func TestLongFormats(t *testing.T) {
	const many = 100000
	l := slices.Repeat(list(number(-1), text("\x00")), many/2)
	want := strings.Repeat("-1\"\\x00\"", many/2)
	f := strings.Repeat("%d%q", many/2)
	if got := format(f, l, len(want)); got != fine(want, many) {
		t.Error(len(got.s), got.n, got.e)
	}
	if got := format(f, l, len(want)-1); got != bad(0, api.ErrLong) {
		t.Error(len(got.s), got.n, got.e)
	}
	if got := format(f+"%s", l, len(want)); got != bad(many+1, api.ErrNone) {
		t.Error(len(got.s), got.n, got.e)
	}
}
