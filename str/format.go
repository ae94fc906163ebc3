package str

import (
	"strconv"
	"strings"

	"selkie/api"
	"selkie/conv"
	"selkie/value"
)

// Format is a text with values put in.
func Format(f string, l []api.Value, most int) (string, int, api.Errno) {
	var out []byte
	most = bound(most)
	taken := 0
	for f != "" {
		piece, rest, values, e := next(f, l[taken:])
		if e == api.ErrForm {
			return "", 0, e
		}
		taken += values
		if e != api.OK {
			return "", taken, e
		}
		if len(piece) > most-len(out) {
			return "", 0, api.ErrLong
		}
		out = append(out, piece...)
		f = rest
	}
	return string(out), taken, api.OK
}

// next is what comes out of a format's next piece, what stands behind that, and how many values of l it asks for.
func next(f string, l []api.Value) (piece, rest string, values int, e api.Errno) {
	if f[0] != '%' {
		plain, _, _ := strings.Cut(f, "%")
		return plain, f[len(plain):], 0, api.OK
	}
	if len(f) < 2 {
		return "", "", 0, api.ErrForm
	}
	sign, rest := f[1], f[2:]
	values, known := asks(sign)
	if !known {
		return "", "", 0, api.ErrForm
	}
	if values == 0 {
		return f[1:2], rest, 0, api.OK
	}
	if len(l) == 0 {
		return "", "", values, api.ErrNone
	}
	piece, ok := put(sign, l[0])
	if !ok {
		return "", "", values, api.ErrValue
	}
	return piece, rest, values, api.OK
}

// asks is how many values a sign behind % asks for; false: it isn't one of the signs.
func asks(sign byte) (values int, known bool) {
	switch sign {
	case 'd', 'x', 's', 'c', 'q':
		values = 1
		fallthrough // a sign with a value is one of the signs as well
	case '%':
		known = true
	}
	return values, known
}

// put is what a sign makes of a value; false: the value isn't such as the sign asks for.
func put(sign byte, v api.Value) (string, bool) {
	switch sign {
	case 's':
		return value.Print(v), true
	case 'q':
		if v.Kind != api.Str {
			return "", false
		}
		return quoted(v.S), true
	}
	n, ok := conv.Number(v)
	if !ok || sign == 'c' && !isByte(n) {
		return "", false
	}
	return shown(sign, n), true
}

// shown is what a sign makes of a number that is such as it asks for.
func shown(sign byte, n int64) string {
	switch sign {
	case 'c':
		return string([]byte{byte(n)})
	case 'x':
		// Unsigned, so that the bits are shown and no sign.
		return strconv.FormatUint(uint64(n), 16)
	}
	return conv.Print(n)
}

// quoted is a string as it is written in a program.
func quoted(s string) string {
	out := []byte{'"'}
	for at := range len(s) {
		switch c := s[at]; c {
		case '"', '\\':
			out = append(out, '\\', c)
		case '\n':
			out = append(out, `\n`...)
		case '\r':
			out = append(out, `\r`...)
		case 0:
			out = append(out, `\x00`...)
		default:
			out = append(out, c)
		}
	}
	return string(append(out, '"'))
}
