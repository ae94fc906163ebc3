package parse_test

import (
	"fmt"
	"math/rand"
	"slices"
	"strconv"
	"strings"
	"testing"

	"selkie/api"
	"selkie/lex"
	"selkie/tree"
)

// strengths: the operators between two expressions, the weakest first, as the chapter has them.
const strengths = "or; and; < > <= >= ~= ==; |; ~; &; << >>; ..; + -; * // %"

func levels() [][]string {
	var l [][]string
	for row := range strings.SplitSeq(strengths, ";") {
		l = append(l, strings.Fields(row))
	}
	return l
}

// The operators' numbers, as DOC.md has them.
const (
	binaryOps = "+ - * // % & | ~ << >> .. == ~= < <= > >= and or"
	unaryOps  = "- ~ not #"
)

func binaryOp(op string) int { return 1 + slices.Index(strings.Fields(binaryOps), op) }

func unaryOp(op string) int { return 20 + slices.Index(strings.Fields(unaryOps), op) }

// piece is a node that Parse must make: its word, the place of the token whose line it is of, what its text has between
// these and the kids.
type piece struct {
	word   string
	token  int
	fields string
	kids   []*piece
}

// text is a piece's text, if the tokens are of these lines.
func (p *piece) text(lineOf []int) string {
	var b strings.Builder
	fmt.Fprintf(&b, "(%s@%d", p.word, lineOf[p.token])
	if p.fields != "" {
		b.WriteString(" " + p.fields)
	}
	for _, k := range p.kids {
		b.WriteString(" " + k.text(lineOf))
	}
	return b.String() + ")"
}

// maker makes programs: their tokens, and the pieces that stand for them.
type maker struct {
	r      *rand.Rand
	size   int // as long as it is above 0, things get bigger
	deep   int
	tokens []string
	open   bool // the last token ends what a ( would go on with
	levels [][]string
	exps   [][2]int // of each expression, from which token on it stands, and up to which
}

func newMaker(r *rand.Rand, size int) *maker { return &maker{r: r, size: size, levels: levels()} }

func (m *maker) put(tokens ...string) {
	m.tokens = append(m.tokens, tokens...)
	m.open = false
}

// here is the place of the next token.
func (m *maker) here() int { return len(m.tokens) }

func (m *maker) oneOf(l ...string) string { return l[m.r.Intn(len(l))] }

func (m *maker) chance(n int) bool { return m.r.Intn(n) == 0 }

func (m *maker) name() string {
	name := m.oneOf(nameTokens...)
	m.put(name)
	return name
}

func (m *maker) names(most int) string {
	l := []string{m.name()}
	for len(l) < most && m.chance(2) {
		m.put(",")
		l = append(l, m.name())
	}
	return strings.Join(l, " ")
}

func quote(s string) string {
	return `"` + strings.NewReplacer(`"`, `\"`, `\`, `\\`, "\n", `\n`, "\r", `\r`, "\x00", `\x00`).Replace(s) + `"`
}

func (m *maker) block() *piece {
	p := &piece{word: "block", token: m.here()}
	for m.size > 0 && m.deep < 12 && !m.chance(4) {
		for m.chance(4) {
			m.put(";")
		}
		p.kids = append(p.kids, m.stat())
	}
	for m.chance(6) {
		m.put(";")
	}
	if m.chance(4) {
		p.kids = append(p.kids, m.ending())
	}
	return p
}

func (m *maker) ending() *piece {
	p := &piece{word: "return", token: m.here()}
	m.put("return")
	if m.chance(2) {
		p.kids = m.list(3)
	}
	if m.chance(2) {
		m.put(";")
	}
	return p
}

func (m *maker) stat() *piece {
	m.size--
	m.deep++
	defer func() { m.deep-- }()
	makes := []func(*piece){
		m.breaks, m.jump, m.label, m.do, m.while, m.repeat, m.choice, m.loop, m.each, m.function, m.localFunction, m.local,
	}
	kind := m.r.Intn(len(makes) + 6)
	if kind >= len(makes) {
		return m.begun()
	}
	p := &piece{token: m.here()}
	makes[kind](p)
	return p
}

func (m *maker) breaks(p *piece) {
	p.word = "break"
	m.put("break")
}

func (m *maker) jump(p *piece) {
	p.word = "goto"
	m.put("goto")
	p.fields = quote(m.name())
}

func (m *maker) label(p *piece) {
	p.word = "label"
	m.put("::")
	p.fields = quote(m.name())
	m.put("::")
}

func (m *maker) do(p *piece) {
	p.word = "do"
	m.put("do")
	p.kids = []*piece{m.block()}
	m.put("end")
}

func (m *maker) while(p *piece) {
	p.word = "while"
	m.put("while")
	p.kids = []*piece{m.exp(0)}
	m.put("do")
	p.kids = append(p.kids, m.block())
	m.put("end")
}

func (m *maker) repeat(p *piece) {
	p.word = "repeat"
	m.put("repeat")
	p.kids = []*piece{m.block()}
	m.put("until")
	p.kids = append(p.kids, m.exp(0))
}

func (m *maker) choice(p *piece) {
	p.word = "if"
	m.put("if")
	for {
		p.kids = append(p.kids, m.exp(0))
		m.put("then")
		p.kids = append(p.kids, m.block())
		if m.chance(2) {
			break
		}
		m.put("elseif")
	}
	if m.chance(2) {
		m.put("else")
		p.kids = append(p.kids, m.block())
	}
	m.put("end")
}

func (m *maker) loop(p *piece) {
	p.word = "for"
	m.put("for")
	p.fields = m.name()
	m.put("=")
	p.kids = append(p.kids, m.exp(0))
	m.put(",")
	p.kids = append(p.kids, m.exp(0))
	if m.chance(2) {
		m.put(",")
		p.kids = append(p.kids, m.exp(0))
	}
	m.put("do")
	p.kids = append(p.kids, m.block())
	m.put("end")
}

func (m *maker) each(p *piece) {
	p.word = "each"
	m.put("for")
	names := m.names(4)
	m.put("in")
	p.kids = m.list(4)
	p.fields = fmt.Sprint(len(p.kids), " ", names)
	m.put("do")
	p.kids = append(p.kids, m.block())
	m.put("end")
}

func (m *maker) function(p *piece) {
	p.word, p.fields = "assign", "1"
	m.put("function")
	target := &piece{word: "name", token: m.here()}
	target.fields = quote(m.name())
	for m.chance(2) {
		target = m.field(target, ".")
	}
	self := ""
	if m.chance(2) {
		target, self = m.field(target, ":"), "self"
	}
	p.kids = []*piece{target, m.body(p.token, self)}
}

func (m *maker) field(of *piece, sign string) *piece {
	p := &piece{word: "index", token: m.here()}
	m.put(sign)
	key := &piece{word: "str", token: m.here()}
	key.fields = quote(m.name())
	p.kids = []*piece{of, key}
	return p
}

func (m *maker) localFunction(p *piece) {
	p.word = "local-func"
	m.put("local")
	at := m.here()
	m.put("function")
	p.fields = m.name()
	p.kids = []*piece{m.body(at, "")}
}

func (m *maker) local(p *piece) {
	p.word = "local"
	m.put("local")
	p.fields = m.names(4)
	if m.chance(2) {
		m.put("=")
		p.kids = m.list(4)
	}
}

// begun is a statement that begins with an expression.
func (m *maker) begun() *piece {
	paren := m.chance(3)
	if paren && m.open {
		m.put(";")
	}
	at := m.here()
	if m.chance(2) {
		return &piece{word: "do-call", token: at, kids: []*piece{m.suffixed(paren, "call", "method")}}
	}
	p := &piece{word: "assign", token: at, kids: []*piece{m.suffixed(paren, "name", "index")}}
	for m.chance(3) {
		m.put(",")
		p.kids = append(p.kids, m.suffixed(m.chance(3), "name", "index"))
	}
	p.fields = fmt.Sprint(len(p.kids))
	m.put("=")
	p.kids = append(p.kids, m.list(3)...)
	return p
}

func (m *maker) list(most int) []*piece {
	l := []*piece{m.exp(0)}
	for len(l) < most && m.chance(3) {
		m.put(",")
		l = append(l, m.exp(0))
	}
	return l
}

// exp is an expression that may stand where operators of that level do, without brackets.
func (m *maker) exp(level int) *piece {
	m.size--
	m.deep++
	at := m.here()
	defer func() {
		m.deep--
		m.exps = append(m.exps, [2]int{at, m.here()})
	}()
	small := m.size <= 0 || m.deep > 12
	if level < len(m.levels) && !small && m.chance(2) {
		return m.between(level + m.r.Intn(len(m.levels)-level))
	}
	if !small && m.chance(5) {
		op := m.oneOf(strings.Fields(unaryOps)...)
		m.put(op)
		return &piece{word: "unary", token: at, fields: fmt.Sprint(unaryOp(op)), kids: []*piece{m.exp(len(m.levels))}}
	}
	if !small && m.chance(3) {
		return m.suffixed(m.chance(3))
	}
	return m.simple(small)
}

func (m *maker) between(level int) *piece {
	op := m.oneOf(m.levels[level]...)
	left, right := level, level+1
	if op == ".." {
		left, right = right, left
	}
	p := &piece{word: "binary", fields: fmt.Sprint(binaryOp(op)), kids: []*piece{m.exp(left)}}
	p.token = m.here()
	m.put(op)
	p.kids = append(p.kids, m.exp(right))
	return p
}

func (m *maker) simple(small bool) *piece {
	at := m.here()
	p := &piece{token: at}
	switch kind := m.r.Intn(9); {
	case kind == 0:
		p.word = m.oneOf("nil", "true", "false")
		m.put(p.word)
	case kind == 1:
		p.word = "many"
		m.put("...")
	case kind == 2:
		m.text(p)
	case kind == 3 && !small:
		m.put("function")
		return m.body(at, "")
	case kind == 4 && !small:
		m.table(p)
	case kind < 6:
		p.word, p.fields = "name", quote(m.name())
		m.open = true
	default:
		number := m.oneOf(numberTokens...)
		n, _ := strconv.ParseInt(number, 0, 64)
		p.word, p.fields = "int", fmt.Sprint(n)
		m.put(number)
	}
	return p
}

func (m *maker) text(p *piece) {
	at := m.r.Intn(len(textTokens))
	p.word, p.fields = "str", quote([]string{"a", "end", "=", "", "(", " ]] "}[at])
	m.put(textTokens[at])
}

func (m *maker) table(p *piece) {
	p.word = "table"
	m.put("{")
	for m.chance(2) {
		if len(p.kids) > 0 {
			m.put(m.oneOf(",", ";"))
		}
		p.kids = append(p.kids, m.item())
	}
	if len(p.kids) > 0 && m.chance(3) {
		m.put(m.oneOf(",", ";"))
	}
	m.put("}")
}

func (m *maker) item() *piece {
	p := &piece{word: "key", token: m.here()}
	switch m.r.Intn(3) {
	case 0:
		m.put("[")
		p.kids = []*piece{m.exp(0)}
		m.put("]")
	case 1:
		p.kids = []*piece{{word: "str", token: m.here()}}
		p.kids[0].fields = quote(m.name())
	default:
		p.word, p.kids = "pos", []*piece{m.exp(0)}
		return p
	}
	m.put("=")
	p.kids = append(p.kids, m.exp(0))
	return p
}

func (m *maker) body(at int, self string) *piece {
	p := &piece{word: "func", token: at}
	l := []string{"0"}
	if self != "" {
		l = append(l, self)
	}
	m.put("(")
	kind := m.r.Intn(4)
	if kind < 2 {
		l = append(l, m.names(3))
	}
	if kind == 1 {
		m.put(",")
	}
	if kind == 1 || kind == 2 {
		m.put("...")
		l[0] = "1"
	}
	m.put(")")
	p.fields = strings.Join(l, " ")
	p.kids = []*piece{m.block()}
	m.put("end")
	return p
}

// suffixed begins with a ( or not, and ends as one of these kinds of nodes, or as any.
func (m *maker) suffixed(paren bool, ends ...string) *piece {
	p := m.plain(paren)
	for {
		fine := len(ends) == 0 || slices.Contains(ends, p.word)
		if fine && (m.size <= 0 || m.deep > 12 || m.chance(2)) {
			m.open = true
			return p
		}
		kind := m.r.Intn(4)
		if !fine {
			kind = m.r.Intn(2)
			if ends[0] == "call" {
				kind += 2
			}
		}
		p = m.suffix(p, kind)
		m.size--
	}
}

func (m *maker) plain(paren bool) *piece {
	p := &piece{word: "name", token: m.here()}
	if !paren {
		p.fields = quote(m.name())
		return p
	}
	p.word = "paren"
	m.put("(")
	p.kids = []*piece{m.exp(0)}
	m.put(")")
	return p
}

// suffix: 0 and 1 are indexes, 2 and 3 calls.
func (m *maker) suffix(of *piece, kind int) *piece {
	switch p := (&piece{word: "index", token: m.here(), kids: []*piece{of}}); kind {
	case 0:
		return m.field(of, ".")
	case 1:
		m.put("[")
		p.kids = append(p.kids, m.exp(0))
		m.put("]")
		return p
	case 2:
		p.word = "method"
		m.put(":")
		p.fields = quote(m.name())
		p.kids = append(p.kids, m.arguments()...)
		return p
	default:
		p.word = "call"
		p.kids = append(p.kids, m.arguments()...)
		return p
	}
}

func (m *maker) arguments() []*piece {
	p := &piece{token: m.here()}
	var l []*piece
	switch m.r.Intn(5) {
	case 0:
		m.text(p)
		return []*piece{p}
	case 1:
		m.table(p)
		return []*piece{p}
	case 2:
		m.put("(")
	default:
		m.put("(")
		l = m.list(3)
	}
	m.put(")")
	return l
}

// spread writes tokens with what between says between them, and tells their lines, the Eof's too.
func spread(tokens []string, between func(a, b string) string) (string, []int) {
	var b strings.Builder
	var lineOf []int
	last := ""
	for _, token := range append(slices.Clone(tokens), "") {
		b.WriteString(between(last, token))
		lineOf = append(lineOf, 1+strings.Count(b.String(), "\n"))
		b.WriteString(token)
		last = token
	}
	return b.String(), lineOf
}

// tight: may a token stand right behind another one?
func tight(a, b string) bool {
	l, err := lex.Lex(a + b)
	if err != nil || len(l) != 3 {
		return false
	}
	for i, token := range []string{a, b} {
		if one, err := lex.Lex(token); err != nil || len(one) != 2 || one[0] != l[i] {
			return false
		}
	}
	return true
}

// P7.1, P7.2: the tree of any program, its nodes' lines too, whatever stands between the tokens.
func TestPrograms(t *testing.T) {
	random := rand.New(rand.NewSource(9))
	blanks := []string{" ", "\n", "\t\r\v\f", "--\n", "-- x = ( 'a\n", "--[[ end\n\n]]", "--[==[ ]] ]==]", " --[\n", "\n\n"}
	seams := map[string]func(a, b string) string{
		"a blank": func(a, b string) string { return " " },
		"a line":  func(a, b string) string { return "\n" },
		"chance":  func(a, b string) string { return " " + blanks[random.Intn(len(blanks))] },
		"little": func(a, b string) string {
			if a == "" || b == "" || tight(a, b) {
				return ""
			}
			return " "
		},
	}
	for round := range 2500 {
		m := newMaker(random, random.Intn(60))
		p := m.block()
		for seam, between := range seams {
			if seam == "little" && round%10 > 0 {
				continue
			}
			src, lineOf := spread(m.tokens, between)
			want := told{text: p.text(lineOf)}
			if is := got(t, src); is != want {
				t.Fatalf("%s: %q\n%v\n%v", seam, src, is, want)
			}
		}
	}
}

// P7.2: brackets around an expression, wherever it stands, are one node more, and say nothing else.
func TestBracketsAreOneNodeMore(t *testing.T) {
	random := rand.New(rand.NewSource(10))
	for range 2000 {
		m := newMaker(random, 1+random.Intn(40))
		m.block()
		if len(m.exps) == 0 {
			continue
		}
		at := m.exps[random.Intn(len(m.exps))]
		// A ( behind brackets would be a call's.
		if at[1] < len(m.tokens) && m.tokens[at[1]] == "(" {
			continue
		}
		plain := strings.Join(m.tokens, " ")
		bracketed := strings.Join(slices.Insert(slices.Insert(slices.Clone(m.tokens), at[1], ")"), at[0], "("), " ")
		one, other := parsed(t, plain), parsed(t, bracketed)
		if len(other.Nodes) != len(one.Nodes)+1 || bare(one) != bare(other) {
			t.Fatalf("%s\n%s\n%s\n%s", plain, bracketed, bare(one), bare(other))
		}
	}
}

// bare is a tree's text without its EParens.
func bare(x api.Tree) string {
	var out api.Tree
	var put func(place int) int
	put = func(place int) int {
		n := x.Nodes[place]
		if n.Kind == api.EParen {
			return put(n.Kids[0])
		}
		kids := n.Kids
		n.Kids = nil
		for _, k := range kids {
			n.Kids = append(n.Kids, put(k))
		}
		out.Nodes = append(out.Nodes, n)
		return len(out.Nodes) - 1
	}
	out.Root = put(x.Root)
	return tree.Print(out)
}

func returns(format string, l ...any) told {
	return told{text: "(block@1 (return@1 " + fmt.Sprintf(format, l...) + "))"}
}

// P7.1, P7.2: which of two operators binds first, each beside each other one, and brackets around either pair.
func TestEachTwoOperators(t *testing.T) {
	l := levels()
	level := func(op string) int {
		return slices.IndexFunc(l, func(row []string) bool { return slices.Contains(row, op) })
	}
	const x, y, z = `(name@1 "x")`, `(name@1 "y")`, `(name@1 "z")`
	for _, a := range strings.Fields(binaryOps) {
		for _, b := range strings.Fields(binaryOps) {
			first := returns("(binary@1 %d (binary@1 %d %s %s) %s)", binaryOp(b), binaryOp(a), x, y, z)
			second := returns("(binary@1 %d %s (binary@1 %d %s %s))", binaryOp(a), x, binaryOp(b), y, z)
			want := first
			if level(a) < level(b) || a == ".." && b == ".." {
				want = second
			}
			holds(t, map[string]told{
				fmt.Sprintf("return x %s y %s z", a, b):   want,
				fmt.Sprintf("return (x %s y) %s z", a, b): returns("(binary@1 %d (paren@1 (binary@1 %d %s %s)) %s)", binaryOp(b), binaryOp(a), x, y, z),
				fmt.Sprintf("return x %s (y %s z)", a, b): returns("(binary@1 %d %s (paren@1 (binary@1 %d %s %s)))", binaryOp(a), x, binaryOp(b), y, z),
				fmt.Sprintf("return (x %s y %s z)", a, b): returns("(paren@1 %s)", strings.TrimSuffix(strings.TrimPrefix(want.text, "(block@1 (return@1 "), "))")),
				fmt.Sprintf("return x %s (y) %s z", a, b): returns("%s", strings.Replace(strings.TrimSuffix(strings.TrimPrefix(want.text, "(block@1 (return@1 "), "))"), y, "(paren@1 "+y+")", 1)),
			})
		}
	}
}

// P7.1: operators ahead of an expression bind more than those between two, and less than what hangs on one.
func TestEachUnaryOperator(t *testing.T) {
	for _, a := range strings.Fields(unaryOps) {
		one := func(name string) string { return fmt.Sprintf("(unary@1 %d (name@1 %q))", unaryOp(a), name) }
		for _, b := range strings.Fields(binaryOps) {
			holds(t, map[string]told{
				fmt.Sprintf("return %s x %s y", a, b):       returns(`(binary@1 %d %s (name@1 "y"))`, binaryOp(b), one("x")),
				fmt.Sprintf("return x %s %s y", b, a):       returns(`(binary@1 %d (name@1 "x") %s)`, binaryOp(b), one("y")),
				fmt.Sprintf("return %s x %s %s y", a, b, a): returns(`(binary@1 %d %s %s)`, binaryOp(b), one("x"), one("y")),
				fmt.Sprintf("return %s ( x %s y )", a, b):   returns(`(unary@1 %d (paren@1 (binary@1 %d (name@1 "x") (name@1 "y"))))`, unaryOp(a), binaryOp(b)),
				fmt.Sprintf("return x .. %s y %s z", a, b):  returns("%s", concatThen(b, one("y"))),
			})
		}
		for _, b := range strings.Fields(unaryOps) {
			holds(t, map[string]told{
				fmt.Sprintf("return %s %s x", a, b): returns(`(unary@1 %d (unary@1 %d (name@1 "x")))`, unaryOp(a), unaryOp(b)),
			})
		}
		for src, want := range map[string]string{
			"x.y":   `(index@1 (name@1 "x") (str@1 "y"))`,
			"x[y]":  `(index@1 (name@1 "x") (name@1 "y"))`,
			"x()":   `(call@1 (name@1 "x"))`,
			"x''":   `(call@1 (name@1 "x") (str@1 ""))`,
			"x:y()": `(method@1 "y" (name@1 "x"))`,
		} {
			holds(t, map[string]told{"return " + a + " " + src: returns("(unary@1 %d %s)", unaryOp(a), want)})
		}
	}
}

// concatThen is what x .. y op z is, y being this.
func concatThen(op, y string) string {
	if strings.Contains(" .. + - * // % ", " "+op+" ") {
		return fmt.Sprintf(`(binary@1 11 (name@1 "x") (binary@1 %d %s (name@1 "z")))`, binaryOp(op), y)
	}
	return fmt.Sprintf(`(binary@1 %d (binary@1 11 (name@1 "x") %s) (name@1 "z"))`, binaryOp(op), y)
}
