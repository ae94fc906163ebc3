package tree_test

import (
	"fmt"
	"math/rand"
	"regexp"
	"slices"
	"strconv"
	"strings"
	"testing"

	"selkie/api"
	"selkie/tree"
)

// The chapter's words once more, otherwise than in the package: soundness by who names whom, what a node may be by a table of patterns.

const keywords = "and break do else elseif end false for function goto if in local nil not or repeat return then true until while"

// letters: one for each Kind, from ENil on. So expressions are a to o, p and q items, r a block, the rest statements, C an SReturn.
const letters = "abcdefghijklmnopqrstuvwxyzABCDEF"

// kinds: of each Kind, from ENil on, its word, the fields that it has, and the pattern of its Kids' letters (N stands for N).
const kinds = `nil : :
true : :
false : :
int : N :
str : S :
many : :
name : name :
index : : [a-o][a-o]
call : : [a-o]+
method : name : [a-o]+
func : N01 Names : r
binary : Op1-19 : [a-o][a-o]
unary : Op20-23 : [a-o]
paren : : [a-o]
table : : [pq]*
pos : : [a-o]
key : : [a-o][a-o]
block : : [s-zABDEF]*C?
local : Names+ : [a-o]*
assign : N1 : [gh]{N}[a-o]+
do-call : : [ij]
do : : r
while : : [a-o]r
repeat : : r[a-o]
if : : ([a-o]r)+r?
for : Names1 : [a-o][a-o][a-o]?r
each : N1 Names+ : [a-o]{N}r
local-func : Names1 : k
return : : [a-o]*
break : :
goto : name :
label : name :`

type row struct{ word, fields, kids string }

func rows() []row {
	l := []row{{}}
	for line := range strings.SplitSeq(kinds, "\n") {
		p := strings.Split(line+" ", ":")
		l = append(l, row{strings.TrimSpace(p[0]), strings.TrimSpace(p[1]), strings.TrimSpace(p[2])})
	}
	return l
}

var (
	table   = rows()
	aName   = regexp.MustCompile(`\A[A-Za-z_][A-Za-z_0-9]*\z`)
	kidRows = map[string]*regexp.Regexp{}
)

func isAName(s string) bool {
	return aName.MatchString(s) && !slices.Contains(strings.Fields(keywords), s) && len(s) <= 65536
}

func kidsFit(pattern, have string) bool {
	r := kidRows[pattern]
	if r == nil {
		r = regexp.MustCompile(`\A(?:` + pattern + `)\z`)
		kidRows[pattern] = r
	}
	return r.MatchString(have)
}

// nodeFits: is a node as the table has it?
func nodeFits(t api.Tree, n api.Node) bool {
	if n.Kind < 1 || n.Kind >= len(table) || n.Line <= 0 {
		return false
	}
	has := table[n.Kind]
	ok := true
	var op, num, text, names bool
	for _, f := range strings.Fields(has.fields) {
		switch f {
		case "N":
			num = true
		case "N01":
			num, ok = true, ok && (n.N == 0 || n.N == 1)
		case "N1":
			num, ok = true, ok && n.N > 0 && n.N <= int64(len(n.Kids)-1)
		case "S":
			text = true
		case "name":
			text, ok = true, ok && isAName(n.S)
		case "Op1-19":
			op, ok = true, ok && n.Op > 0 && n.Op < 20
		case "Op20-23":
			op, ok = true, ok && n.Op > 19 && n.Op < 24
		case "Names":
			names = true
		case "Names+":
			names, ok = true, ok && len(n.Names) > 0
		case "Names1":
			names, ok = true, ok && len(n.Names) == 1
		}
	}
	if !ok || !op && n.Op != 0 || !num && n.N != 0 || !text && n.S != "" || !names && len(n.Names) > 0 {
		return false
	}
	for _, s := range n.Names {
		ok = ok && isAName(s)
	}
	have := ""
	for _, k := range n.Kids {
		if kind := t.Nodes[k].Kind; kind < 1 || kind > len(letters) {
			have += "?"
		} else {
			have += letters[kind-1 : kind]
		}
	}
	return ok && kidsFit(strings.ReplaceAll(has.kids, "{N}", "{"+strconv.FormatInt(n.N, 10)+"}"), have)
}

// depth: of a sound tree how deep it is, else 0.
func depth(t api.Tree) int {
	n := len(t.Nodes)
	if n < 1 || n > 16384 || t.Root < 0 || t.Root >= n {
		return 0
	}
	by := map[int][]int{}
	for i, x := range t.Nodes {
		for _, k := range x.Kids {
			if k < 0 || k >= n || k == t.Root {
				return 0
			}
			by[k] = append(by[k], i)
		}
	}
	most := 1
	for i := range t.Nodes {
		at, steps := i, 1
		for at != t.Root {
			if len(by[at]) != 1 || steps > n {
				return 0
			}
			at = by[at][0]
			steps++
		}
		most = max(most, steps)
	}
	return most
}

func right(t api.Tree) bool {
	d := depth(t)
	if d < 1 || d > 100 || t.Nodes[t.Root].Kind != 18 {
		return false
	}
	for _, n := range t.Nodes {
		if !nodeFits(t, n) {
			return false
		}
	}
	return true
}

func text(t api.Tree, place int) string {
	n := t.Nodes[place]
	l := []string{fmt.Sprintf("(%s@%d", table[n.Kind].word, n.Line)}
	has := table[n.Kind].fields
	if strings.Contains(has, "Op") {
		l = append(l, fmt.Sprint(n.Op))
	}
	if strings.HasPrefix(has, "N0") || strings.HasPrefix(has, "N1") || has == "N" {
		l = append(l, fmt.Sprint(n.N))
	}
	if has == "S" || has == "name" {
		l = append(l, `"`+strings.NewReplacer(`"`, `\"`, `\`, `\\`, "\n", `\n`, "\r", `\r`, "\x00", `\x00`).Replace(n.S)+`"`)
	}
	l = append(l, n.Names...)
	for _, k := range n.Kids {
		l = append(l, text(t, k))
	}
	return strings.Join(l, " ") + ")"
}

// check holds the three calls against the words above.
func check(t *testing.T, x api.Tree) {
	t.Helper()
	if got, want := tree.Deep(x), depth(x); got != want {
		t.Errorf("Deep %d, not %d: %s", got, want, short(x))
	}
	is, want := right(x), ""
	if is {
		want = text(x, x.Root)
	}
	if got := tree.Right(x); got != is {
		t.Errorf("Right %v: %s", got, short(x))
	}
	if got := tree.Print(x); got != want {
		t.Errorf("Print %.300q, not %.300q: %s", got, want, short(x))
	}
}

// hold holds the three calls against what is told, and what is told against the words above.
func hold(t *testing.T, what string, x api.Tree, deep int, print string) {
	t.Helper()
	if d, r, p := tree.Deep(x), tree.Right(x), tree.Print(x); d != deep || r != (print != "") || p != print {
		t.Errorf("%s: Deep %d, Right %v, Print %.300q", what, d, r, p)
	}
	check(t, x)
}

// refused: a tree that isn't Right, and its Deep.
func refused(t *testing.T, what string, x api.Tree, deep int) {
	t.Helper()
	hold(t, what, x, deep, "")
}

// taken: a tree that is Right.
func taken(t *testing.T, what string, x api.Tree) {
	t.Helper()
	if !tree.Right(x) || tree.Print(x) == "" || tree.Deep(x) == 0 {
		t.Errorf("%s: refused: %s", what, short(x))
	}
	check(t, x)
}

func short(x api.Tree) string {
	s := fmt.Sprintf("%+v", x)
	return s[:min(len(s), 600)]
}

// branch is a node with what hangs on it: a tree that has no places yet.
type branch struct {
	node api.Node
	kids []branch
}

// of is a node of a Kind, at line 1, with the fields that the Kind must have.
func of(kind int, kids ...branch) branch {
	n := api.Node{Kind: kind, Line: 1}
	if kind > 0 && kind < len(table) {
		for _, f := range strings.Fields(table[kind].fields) {
			switch f {
			case "N1":
				n.N = 1
			case "name":
				n.S = "a"
			case "Op1-19":
				n.Op = 1
			case "Op20-23":
				n.Op = 20
			case "Names+", "Names1":
				n.Names = []string{"a"}
			}
		}
	}
	return branch{n, kids}
}

func (b branch) with(change func(*api.Node)) branch {
	b.node.Names = slices.Clone(b.node.Names)
	change(&b.node)
	return b
}

func (b branch) size() int {
	n := 1
	for _, k := range b.kids {
		n += k.size()
	}
	return n
}

// plant is the branch as a tree, each node at the place that comes next.
func plant(b branch, places []int) api.Tree {
	x := api.Tree{Nodes: make([]api.Node, b.size())}
	next := 0
	var put func(b branch) int
	put = func(b branch) int {
		at := places[next]
		next++
		n := b.node
		n.Kids = nil
		for _, k := range b.kids {
			n.Kids = append(n.Kids, put(k))
		}
		x.Nodes[at] = n
		return at
	}
	x.Root = put(b)
	return x
}

func inOrder(n int) []int {
	l := make([]int, n)
	for i := range l {
		l[i] = i
	}
	return l
}

// asTree is the branch as a tree, as it stands or, with a source, with its nodes anywhere.
func asTree(b branch, r *rand.Rand) api.Tree {
	if r == nil {
		return plant(b, inOrder(b.size()))
	}
	return plant(b, r.Perm(b.size()))
}

// leaf is the least branch of a Kind that may be.
func leaf(kind int) branch {
	switch kind {
	case api.EIndex, api.EBinary, api.IKey:
		return of(kind, of(api.ENil), of(api.ENil))
	case api.ECall, api.EMethod, api.EUnary, api.EParen, api.IPos:
		return of(kind, of(api.ENil))
	case api.EFunc, api.SDo:
		return of(kind, of(api.SBlock))
	case api.SAssign:
		return of(kind, of(api.EName), of(api.ENil))
	case api.SCall:
		return of(kind, leaf(api.ECall))
	case api.SWhile, api.SIf, api.SEach:
		return of(kind, of(api.ENil), of(api.SBlock))
	case api.SRepeat:
		return of(kind, of(api.SBlock), of(api.ENil))
	case api.SFor:
		return of(kind, of(api.ENil), of(api.ENil), of(api.SBlock))
	case api.SFunc:
		return of(kind, leaf(api.EFunc))
	}
	return of(kind)
}

// under is a block of all in which a branch may stand, if it may stand anywhere.
func under(b branch) branch {
	switch kind := b.node.Kind; {
	case kind >= api.ENil && kind <= api.ETable:
		return of(api.SBlock, of(api.SReturn, b))
	case kind == api.IPos || kind == api.IKey:
		return of(api.SBlock, of(api.SReturn, of(api.ETable, b)))
	case kind == api.SBlock:
		return of(api.SBlock, of(api.SDo, b))
	}
	return of(api.SBlock, b)
}
