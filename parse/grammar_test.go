package parse_test

import (
	"fmt"
	"maps"
	"math/rand"
	"slices"
	"strings"
	"testing"

	"selkie/api"
)

// The chapter's grammar once more, read by a recognizer that knows nothing but rules (Earley's): it tells of any row of
// tokens the first one with which no source goes on. Words and signs that are the grammar's own too are in quotes.
const grammar = `
block -> { ; | stat } [ return [ list ] [ ; ] ]
stat -> targets = list | call | :: Name :: | break | goto Name | do block end | while exp do block end
stat -> repeat block until exp | if exp then block { elseif exp then block } [ else block ] end
stat -> for Name = exp , exp [ , exp ] do block end | for names in list do block end
stat -> function Name { . Name } [ : Name ] body | local function Name body | local names [ = list ]
targets -> target { , target }
names -> Name { , Name }
list -> exp { , exp }
target -> Name | suffixed . Name | suffixed '[' exp ']'
call -> suffixed args | suffixed : Name args
suffixed -> Name | ( exp ) | target | call
args -> ( [ list ] ) | table | Text
exp -> nil | true | false | Number | Text | ... | function body | table | suffixed | exp binary exp | unary exp
body -> ( [ names [ , ... ] | ... ] ) block end
table -> '{' [ item { , item | ; item } [ , | ; ] ] '}'
item -> '[' exp ']' = exp | Name = exp | exp
`

const (
	keywords = "and break do else elseif end false for function goto if in local nil not or repeat return then true until while"
	signs    = "+ - * // % & | ~ << >> .. ... == ~= < <= > >= = ( ) { } [ ] ; : :: , . #"
	binaries = "or and < > <= >= ~= == | ~ & << >> .. + - * // %"
	unaries  = "not # - ~"
)

// Of each class of tokens some; words and signs stand for themselves.
var (
	nameTokens   = []string{"a", "self", "_9", "ending"}
	numberTokens = []string{"0", "7", "0xfF", "9223372036854775807"}
	textTokens   = []string{"'a'", `"end"`, "[[=]]", "''", `'('`, "[==[ ]] ]==]"}
)

func everyToken() []string {
	return slices.Concat(strings.Fields(keywords), strings.Fields(signs), nameTokens[:1], numberTokens[:1], textTokens)
}

// class is what the grammar calls a token.
func class(token string) string {
	switch {
	case slices.Contains(nameTokens, token):
		return "Name"
	case slices.Contains(numberTokens, token):
		return "Number"
	case slices.Contains(textTokens, token):
		return "Text"
	}
	return token
}

func fits(terminal, token string) bool {
	switch terminal {
	case "binary":
		return slices.Contains(strings.Fields(binaries), token)
	case "unary":
		return slices.Contains(strings.Fields(unaries), token)
	}
	return terminal == class(token)
}

// ebnf turns the rules into ones without brackets: what stands in these gets a name of its own.
type ebnf struct {
	rules map[string][][]string
	fresh int
}

func readGrammar() *ebnf {
	g := &ebnf{rules: map[string][][]string{}}
	for _, line := range strings.Split(strings.TrimSpace(grammar), "\n") {
		name, right, _ := strings.Cut(line, " -> ")
		l := strings.Fields(right)
		rows, rest := g.alternatives(l)
		if len(rest) > 0 {
			panic(line)
		}
		g.rules[name] = append(g.rules[name], rows...)
	}
	return g
}

func (g *ebnf) alternatives(l []string) ([][]string, []string) {
	rows := [][]string{nil}
	for len(l) > 0 {
		last := len(rows) - 1
		switch l[0] {
		case "|":
			rows, l = append(rows, nil), l[1:]
		case "{", "[":
			inner, rest := g.alternatives(l[1:])
			g.fresh++
			name := fmt.Sprint("_", g.fresh)
			made := [][]string{nil}
			for _, row := range inner {
				if l[0] == "{" {
					row = append([]string{name}, row...)
				}
				made = append(made, row)
			}
			g.rules[name] = made
			rows[last], l = append(rows[last], name), rest[1:]
		case "}", "]":
			return rows, l
		default:
			rows[last], l = append(rows[last], strings.Trim(l[0], "'")), l[1:]
		}
	}
	return rows, nil
}

// rule and item are in numbers, so that they are held against each other fast.
type rule struct {
	left  int
	right []int // symbols: a terminal is below 0
}

type item struct{ rule, dot, from int }

// recognizer: behind each token the set of items that it may be within.
type recognizer struct {
	rules     []rule
	of        [][]int // the rules of each symbol
	nullable  []bool
	terminals []string
	args      int
	sets      [][]item
}

func newRecognizer() *recognizer {
	g := readGrammar()
	g.rules["source"] = [][]string{{"block"}}
	names := slices.Sorted(maps.Keys(g.rules))
	r := &recognizer{of: make([][]int, len(names)), nullable: make([]bool, len(names)), args: slices.Index(names, "args")}
	for left, name := range names {
		for _, row := range g.rules[name] {
			r.of[left] = append(r.of[left], len(r.rules))
			r.rules = append(r.rules, rule{left, r.symbols(names, row)})
		}
	}
	for range names {
		for _, x := range r.rules {
			all := true
			for _, s := range x.right {
				all = all && s >= 0 && r.nullable[s]
			}
			r.nullable[x.left] = r.nullable[x.left] || all
		}
	}
	r.sets = [][]item{r.closed([]item{{rule: r.of[slices.Index(names, "source")][0]}})}
	return r
}

func (r *recognizer) symbols(names, row []string) []int {
	var l []int
	for _, s := range row {
		if at := slices.Index(names, s); at >= 0 {
			l = append(l, at)
			continue
		}
		at := slices.Index(r.terminals, s)
		if at < 0 {
			at = len(r.terminals)
			r.terminals = append(r.terminals, s)
		}
		l = append(l, -1-at)
	}
	return l
}

// closed is a set with all that its items lead to.
func (r *recognizer) closed(set []item) []item {
	seen := map[item]bool{}
	add := func(x item) {
		if !seen[x] {
			seen[x] = true
			set = append(set, x)
		}
	}
	for _, x := range set {
		seen[x] = true
	}
	for at := 0; at < len(set); at++ {
		x := set[at]
		right := r.rules[x.rule].right
		if x.dot == len(right) {
			// What began here, and is over at once, is nullable: that is reckoned below.
			if x.from < len(r.sets) {
				for _, y := range r.sets[x.from] {
					if next := r.rules[y.rule].right; y.dot < len(next) && next[y.dot] == r.rules[x.rule].left {
						add(item{y.rule, y.dot + 1, y.from})
					}
				}
			}
			continue
		}
		s := right[x.dot]
		if s < 0 {
			continue
		}
		for _, y := range r.of[s] {
			add(item{rule: y, from: len(r.sets)})
		}
		if r.nullable[s] {
			add(item{x.rule, x.dot + 1, x.from})
		}
	}
	return set
}

// next reads a token, if a source may go on with it.
func (r *recognizer) next(token string) bool {
	var set, args []item
	for _, x := range r.sets[len(r.sets)-1] {
		right := r.rules[x.rule].right
		if x.dot < len(right) && right[x.dot] < 0 && fits(r.terminals[-1-right[x.dot]], token) {
			set = append(set, item{x.rule, x.dot + 1, x.from})
			if r.rules[x.rule].left == r.args {
				args = append(args, set[len(set)-1])
			}
		}
	}
	// A ( that may be a call's is a call's, and doesn't begin the next statement: the chapter doesn't say, Lua does.
	if args != nil {
		set = args
	}
	if set == nil {
		return false
	}
	r.sets = append(r.sets, r.closed(set))
	return true
}

// back forgets the last token.
func (r *recognizer) back() { r.sets = r.sets[:len(r.sets)-1] }

// whole: may the Eof stand here?
func (r *recognizer) whole() bool {
	return slices.Contains(r.sets[len(r.sets)-1], item{rule: r.sets[0][0].rule, dot: 1})
}

// wrongAt is the first token with which no source goes on, the Eof's place behind all, or -1, if it is a source.
func (r *recognizer) wrongAt(tokens []string) int {
	r.sets = r.sets[:1]
	for at, token := range tokens {
		if !r.next(token) {
			return at
		}
	}
	if r.whole() {
		return -1
	}
	return len(tokens)
}

// each on a line of its own, so that a line tells which token it is.
func lines(tokens ...string) string { return strings.Join(tokens, "\n") + "\n" }

// judge holds Parse against the recognizer.
func judge(t *testing.T, tokens []string, wrongAt int) {
	t.Helper()
	is := got(t, lines(tokens...))
	if wrongAt < 0 && is.err == api.OK {
		return
	}
	if want := (told{line: wrongAt + 1, err: api.ErrSyntax}); wrongAt < 0 || is != want {
		t.Fatalf("%q: %v, first wrong token %d", strings.Join(tokens, " "), is, wrongAt)
	}
}

// P7.1: each way to begin a source, and each token behind it.
func TestEachBeginning(t *testing.T) {
	r := newRecognizer()
	all := everyToken()
	// Of tokens that the grammar doesn't tell apart one is enough to go on with.
	few := strings.Fields("- ( ) { } [ ] ; : :: , . = ... not nil and break do else elseif end for function goto if in local repeat return then until while a 'a'")
	seen := 0
	var tokens []string
	var grow func(most int)
	grow = func(most int) {
		seen++
		end := -1
		if !r.whole() {
			end = len(tokens)
		}
		judge(t, tokens, end)
		for _, token := range all {
			tokens = append(tokens, token)
			if !r.next(token) {
				judge(t, tokens, len(tokens)-1)
			} else {
				if most > 0 && slices.Contains(few, token) {
					grow(most - 1)
				}
				r.back()
			}
			tokens = tokens[:len(tokens)-1]
		}
	}
	grow(4)
	if seen < 5000 {
		t.Errorf("only %d beginnings", seen)
	}
}

// P7.1: long beginnings, each as chance has it, and each token behind them.
func TestLongBeginnings(t *testing.T) {
	r := newRecognizer()
	random := rand.New(rand.NewSource(7))
	all := everyToken()
	for range 100 {
		r.sets = r.sets[:1]
		var tokens []string
		for range 500 {
			token := all[random.Intn(len(all))]
			behind := append(slices.Clone(tokens), token, all[random.Intn(len(all))], "end")
			if !r.next(token) {
				judge(t, behind, len(tokens))
				continue
			}
			tokens = append(tokens, token)
			end := -1
			if !r.whole() {
				end = len(tokens)
			}
			judge(t, tokens, end)
		}
	}
}

// P7.1: whole programs with a token left out, put in, or another one in its place.
func TestSpoiltPrograms(t *testing.T) {
	r := newRecognizer()
	random := rand.New(rand.NewSource(8))
	all := everyToken()
	refused := 0
	for range 1000 {
		m := newMaker(random, 1+random.Intn(40))
		m.block()
		tokens := m.tokens
		if at := r.wrongAt(tokens); at >= 0 {
			t.Fatalf("%q: token %d", strings.Join(tokens, " "), at)
		}
		for range 3 {
			spoilt := slices.Clone(tokens)
			at := random.Intn(len(spoilt) + 1)
			switch {
			case at == len(spoilt) || random.Intn(3) == 0:
				spoilt = slices.Insert(spoilt, at, all[random.Intn(len(all))])
			case random.Intn(2) == 0:
				spoilt = slices.Delete(spoilt, at, at+1)
			default:
				spoilt[at] = all[random.Intn(len(all))]
			}
			wrongAt := r.wrongAt(spoilt)
			judge(t, spoilt, wrongAt)
			if wrongAt >= 0 {
				refused++
			}
		}
	}
	if refused < 2000 {
		t.Errorf("only %d are refused", refused)
	}
}
