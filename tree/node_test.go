package tree_test

import (
	"math"
	"math/rand"
	"slices"
	"strings"
	"testing"

	"selkie/api"
	"selkie/tree"
)

// P6.1: each Kind with each field that it has at, next to and beyond its ends, and with each that it hasn't.
func TestEachField(t *testing.T) {
	var changes []func(*api.Node)
	for _, v := range []int{0, 1, 2, 11, 17, 18, 19, 20, 21, 22, 23, 24, 25, -1, -18, -20, math.MinInt, math.MaxInt} {
		changes = append(changes, func(n *api.Node) { n.Op = v })
	}
	for _, v := range []int64{0, 1, 2, 3, -1, -2, 1 << 32, 1<<32 + 1, math.MinInt64, math.MaxInt64} {
		changes = append(changes, func(n *api.Node) { n.N = v })
	}
	for _, v := range []string{"", "x", "nil", "1", " ", "\x00", "a b", "é"} {
		changes = append(changes, func(n *api.Node) { n.S = v })
	}
	for _, v := range [][]string{nil, {}, {"x"}, {"x", "y"}, {"x", "x"}, {""}, {"x", ""}, {"", "x"}, {"end"}, {"x", "end"}, {"end", "x", "y"}, slices.Repeat([]string{"z"}, 300)} {
		changes = append(changes, func(n *api.Node) { n.Names = v })
	}
	for kind := -1; kind <= 34; kind++ {
		for _, a := range changes {
			b := leaf(kind).with(a)
			check(t, asTree(under(b), nil))
			check(t, asTree(b, nil))
			for _, c := range changes {
				check(t, asTree(under(b.with(c)), nil))
			}
		}
	}
}

func op(kind, v int) branch { return leaf(kind).with(func(n *api.Node) { n.Op = v }) }

func num(b branch, v int64) branch { return b.with(func(n *api.Node) { n.N = v }) }

func names(b branch, l ...string) branch { return b.with(func(n *api.Node) { n.Names = l }) }

// P6.1: what the table says of fields, by hand.
func TestFields(t *testing.T) {
	for _, b := range []branch{
		op(api.EBinary, api.Add), op(api.EBinary, api.Concat), op(api.EBinary, api.Or), op(api.EUnary, api.Neg), op(api.EUnary, api.Bnot), op(api.EUnary, api.Len),
		num(of(api.EInt), 0), num(of(api.EInt), math.MinInt64), num(of(api.EInt), math.MaxInt64), num(leaf(api.EFunc), 0), num(leaf(api.EFunc), 1),
		names(leaf(api.EFunc)), names(leaf(api.EFunc), "a"), names(leaf(api.EFunc), "a", "a", "b"), names(of(api.SLocal), "a", "b"), names(leaf(api.SEach), "a", "b", "c"),
	} {
		taken(t, "as told", asTree(under(b), nil))
	}
	for _, b := range []branch{
		op(api.EBinary, 0), op(api.EBinary, api.Neg), op(api.EBinary, -1), op(api.EUnary, 0), op(api.EUnary, api.Or), op(api.EUnary, api.Sub), op(api.EUnary, 24), op(api.EUnary, -20), op(api.EInt, 1), op(api.EParen, api.Neg),
		num(leaf(api.EFunc), 2), num(leaf(api.EFunc), -1), num(leaf(api.SAssign), 0), num(leaf(api.SAssign), -1), num(leaf(api.SAssign), 2), num(leaf(api.SEach), 0), num(leaf(api.SEach), -1), num(leaf(api.SEach), 2), num(leaf(api.SEach), math.MaxInt64), num(of(api.ENil), 1), num(leaf(api.SFor), 1),
		names(of(api.SLocal)), names(leaf(api.SEach)), names(leaf(api.SFor)), names(leaf(api.SFunc)), names(leaf(api.SFor), "a", "b"), names(leaf(api.SFunc), "a", "b"), names(of(api.SReturn), "a"), names(of(api.EName), "a"), names(of(api.SBlock), "a"),
		of(api.ENil).with(func(n *api.Node) { n.S = "a" }), of(api.EInt).with(func(n *api.Node) { n.S = "1" }), leaf(api.SFunc).with(func(n *api.Node) { n.S = "a" }), leaf(api.ECall).with(func(n *api.Node) { n.S = "a" }),
	} {
		x := asTree(under(b), nil)
		refused(t, "not as told", x, depth(x))
	}
}

// namings: of a name, a tree for each place that it may have.
func namings(name string) []branch {
	l := []branch{}
	for _, kind := range []int{api.EName, api.EMethod, api.SGoto, api.SLabel} {
		l = append(l, leaf(kind).with(func(n *api.Node) { n.S = name }))
	}
	for _, kind := range []int{api.SFor, api.SFunc, api.SLocal, api.SEach, api.EFunc} {
		l = append(l, names(leaf(kind), name))
	}
	for _, kind := range []int{api.SLocal, api.SEach, api.EFunc} {
		l = append(l, names(leaf(kind), name, "a"), names(leaf(kind), "a", name), names(leaf(kind), "a", name, "b"))
	}
	return l
}

// P6.1: what a name is, wherever one stands.
func TestNames(t *testing.T) {
	long := strings.Repeat("a", api.MaxStr)
	good := []string{"a", "z", "A", "Z", "_", "__", "a1", "_0", "a9_", "And", "END", "end1", "_end", "ends", "e", long, "_" + long[1:]}
	bad := []string{"", "1", "0a", "9", "a b", " a", "a ", "a\n", "\na", "a\x00", "\x00", "a-b", "a.b", "é", "aé", "\xff", "a\x80", "a@", "a[", "a`", "a{", "a/", "a:", "@", "[", "`", "{", "/", ":", long + "a", "\"a\"", "a)"}
	bad = append(bad, strings.Fields(keywords)...)
	for _, name := range good {
		for _, b := range namings(name) {
			taken(t, name[:min(len(name), 20)], asTree(under(b), nil))
		}
	}
	for _, name := range bad {
		for _, b := range namings(name) {
			x := asTree(under(b), nil)
			refused(t, name[:min(len(name), 20)], x, depth(x))
		}
		// A string may be all this.
		taken(t, "a string", asTree(under(of(api.EStr).with(func(n *api.Node) { n.S = name })), nil))
	}
	for c := range 256 {
		s := string([]byte{byte(c)})
		for _, name := range []string{s, "a" + s, s + "a", "a" + s + "a"} {
			for _, b := range namings(name) {
				check(t, asTree(under(b), nil))
			}
		}
	}
}

// P6.1: each Kind with each two Kids of all Kinds, of those that aren't among them.
func TestEachTwoKids(t *testing.T) {
	for kind := 0; kind <= 33; kind++ {
		check(t, asTree(under(of(kind)), nil))
		for a := 0; a <= 33; a++ {
			check(t, asTree(under(of(kind, leaf(a))), nil))
			for b := 0; b <= 33; b++ {
				check(t, asTree(under(of(kind, leaf(a), leaf(b))), nil))
			}
		}
	}
}

// P6.1: each Kind with up to four Kids, one of each sort, and with each N that there may be where N counts Kids.
func TestEachRowOfKids(t *testing.T) {
	some := []branch{leaf(api.ENil), leaf(api.EName), leaf(api.ECall), leaf(api.EFunc), leaf(api.IPos), leaf(api.SBlock), leaf(api.SBreak), leaf(api.SReturn)}
	var fill func(b branch, more int)
	fill = func(b branch, more int) {
		check(t, asTree(under(b), nil))
		if b.node.Kind == api.SAssign || b.node.Kind == api.SEach {
			for n := int64(-1); n <= 5; n++ {
				check(t, asTree(under(num(b, n)), nil))
			}
		}
		if more == 0 {
			return
		}
		for _, k := range some {
			fill(branch{b.node, append(slices.Clone(b.kids), k)}, more-1)
		}
	}
	for kind := api.ENil; kind <= api.SLabel; kind++ {
		// Kinds whose Kids are as many as they are told to be can't come right behind three.
		fill(of(kind), map[bool]int{false: 3, true: 4}[strings.ContainsAny(table[kind].kids, "*+{?")])
	}
}

// P6.1: longer rows of Kids, by hand.
func TestRowsOfKids(t *testing.T) {
	e, b, s, r := of(api.ENil), of(api.SBlock), of(api.SBreak), of(api.SReturn)
	n, i := of(api.EName), leaf(api.EIndex)
	for _, x := range []branch{
		of(api.SIf, e, b, e, b), of(api.SIf, e, b, e, b, b), of(api.SIf, e, b, b), of(api.SIf, e, b, e, b, e, b, e, b), of(api.SBlock, s, s, s, r), of(api.SBlock, s, s, s), of(api.SBlock, r),
		num(of(api.SAssign, n, i, n, e), 3), num(of(api.SAssign, n, i, n, e), 2), num(of(api.SAssign, n, i, n, e), 1), num(of(api.SAssign, n, n, n, n, n), 2), num(of(api.SEach, e, n, i, b), 3), of(api.SFor, e, n, i, b), of(api.SFor, e, e, b),
		of(api.ETable, leaf(api.IKey), leaf(api.IPos), leaf(api.IKey)), of(api.ECall, e, e, e, e), of(api.EMethod, e, e, e, e), of(api.SLocal, e, e, e), of(api.SReturn, e, e, e), of(api.SCall, leaf(api.EMethod)),
	} {
		taken(t, "as told", asTree(under(x), nil))
	}
	for _, x := range []branch{
		of(api.SIf), of(api.SIf, b), of(api.SIf, e), of(api.SIf, b, b), of(api.SIf, e, b, e), of(api.SIf, e, b, b, b), of(api.SIf, e, b, b, e, b), of(api.SIf, e, e, b), of(api.SIf, e, b, e, e), of(api.SIf, b, e),
		of(api.SBlock, r, s), of(api.SBlock, r, r), of(api.SBlock, s, r, s), of(api.SBlock, b), of(api.SBlock, s, e), of(api.SBlock, leaf(api.ECall)), of(api.SBlock, leaf(api.IPos)),
		num(of(api.SAssign, n, i, n, e), 4), num(of(api.SAssign, n, n), 2), num(of(api.SAssign, n), 1), num(of(api.SAssign), 0), num(of(api.SAssign, e, n, e), 2), num(of(api.SAssign, n, e, e), 2), num(of(api.SAssign, n, b), 1), num(of(api.SAssign, leaf(api.ECall), e), 1), num(of(api.SAssign, of(api.EParen, n), e), 1),
		num(of(api.SEach, e, e, b), 1), num(of(api.SEach, e, e, b), 3), num(of(api.SEach, e, e), 1), num(of(api.SEach, e, e), 2), num(of(api.SEach, e, b, b), 1), num(of(api.SEach, b), 0),
		of(api.SFor, e, b), of(api.SFor, e, e, e, e, b), of(api.SFor, e, e), of(api.SFor, e, e, e), of(api.SFor, e, e, b, b), of(api.SFor, b), of(api.SFor),
		of(api.ETable, leaf(api.IPos), e), of(api.ETable, e), of(api.ECall), of(api.EMethod), of(api.ECall, e, b), of(api.ECall, leaf(api.IPos)), of(api.SLocal, s), of(api.SReturn, e, s), of(api.SCall), of(api.SCall, e), of(api.SCall, leaf(api.ECall), leaf(api.ECall)), of(api.SCall, of(api.EParen, leaf(api.ECall))),
		of(api.SFunc), of(api.SFunc, e), of(api.SFunc, b), of(api.SFunc, leaf(api.EFunc), leaf(api.EFunc)), of(api.EFunc), of(api.EFunc, e), of(api.EFunc, b, b), of(api.SDo), of(api.SDo, s), of(api.SDo, b, b), of(api.SWhile, b, e), of(api.SWhile, e), of(api.SWhile, e, b, b), of(api.SRepeat, e, b), of(api.SRepeat, b), of(api.SRepeat, b, e, e),
		of(api.EIndex, e), of(api.EIndex, e, e, e), of(api.EBinary, e), of(api.EBinary, e, e, e), of(api.EUnary), of(api.EUnary, e, e), of(api.EParen), of(api.EParen, e, e), of(api.EParen, b), of(api.IPos), of(api.IPos, e, e), of(api.IKey, e), of(api.IKey, e, e, e), of(api.IPos, leaf(api.IPos)),
		of(api.ENil, e), of(api.EInt, e), of(api.EStr, e), of(api.EName, e), of(api.EMany, e), of(api.SBreak, e), of(api.SGoto, s), of(api.SLabel, b),
	} {
		w := asTree(under(x), nil)
		refused(t, "not as told", w, depth(w))
	}
}

// P6.1: long rows of Kids, with what is wrong at any place.
func TestLongRows(t *testing.T) {
	e, b := of(api.ENil), of(api.SBlock)
	for kind, pair := range map[int][]branch{api.SReturn: {e, e}, api.SIf: {e, b}, api.SBlock: {of(api.SBreak), of(api.SLabel)}, api.ETable: {leaf(api.IPos), leaf(api.IKey)}, api.ECall: {e, of(api.EName)}} {
		good := slices.Repeat(pair, 20)
		taken(t, "a long row", asTree(under(of(kind, good...)), nil))
		for at := range len(good) + 1 {
			for wrong := range 34 {
				check(t, asTree(under(of(kind, slices.Insert(slices.Clone(good), at, leaf(wrong))...)), nil))
			}
		}
	}
	for _, n := range []int64{1, 2, 19, 20, 21, 39, 40, 41} {
		good := slices.Repeat([]branch{of(api.EName)}, 40)
		check(t, asTree(under(num(of(api.SAssign, good...), n)), nil))
		check(t, asTree(under(num(of(api.SEach, append(good, b)...), n)), nil))
		for at := range good {
			l := slices.Clone(good)
			l[at] = e
			check(t, asTree(under(num(of(api.SAssign, l...), n)), nil))
		}
	}
}

// grown is a branch of a sort that may be, made by chance.
func grown(r *rand.Rand, kind, more int) branch {
	row := func(least, most int, pick func() int) []branch {
		l := []branch{}
		for range least + r.Intn(most-least+1) {
			l = append(l, grown(r, pick(), more-1))
		}
		return l
	}
	exp := func() int {
		if more <= 0 {
			return []int{api.ENil, api.ETrue, api.EFalse, api.EInt, api.EStr, api.EMany, api.EName}[r.Intn(7)]
		}
		return api.ENil + r.Intn(15)
	}
	just := func(kind int) func() int { return func() int { return kind } }
	target := func() int {
		if more <= 0 {
			return api.EName
		}
		return api.EName + r.Intn(2)
	}
	stat := func() int {
		if more <= 0 {
			return []int{api.SBreak, api.SGoto, api.SLabel, api.SLocal}[r.Intn(4)]
		}
		return []int{api.SLocal, api.SAssign, api.SCall, api.SDo, api.SWhile, api.SRepeat, api.SIf, api.SFor, api.SEach, api.SFunc, api.SBreak, api.SGoto, api.SLabel}[r.Intn(13)]
	}
	block := func() []branch { return row(1, 1, just(api.SBlock)) }
	b := of(kind)
	b.node.Line = 1 + r.Intn(3)
	switch kind {
	case api.EInt:
		b.node.N = int64(r.Uint64()) >> r.Intn(64)
	case api.EStr:
		b.node.S = []string{"", "a", "\"", "\\", "\n", "\r", "\x00", "a b", ")", "\xff"}[r.Intn(10)]
	case api.EName, api.SGoto, api.SLabel:
		b.node.S = []string{"a", "b", "_c"}[r.Intn(3)]
	case api.EIndex, api.EBinary, api.IKey:
		b.kids = row(2, 2, exp)
	case api.ECall, api.EMethod:
		b.kids = row(1, 3, exp)
	case api.EUnary, api.EParen, api.IPos:
		b.kids = row(1, 1, exp)
	case api.EFunc, api.SDo:
		b.kids = block()
	case api.ETable:
		b.kids = row(0, 3, func() int { return api.IPos + r.Intn(2) })
	case api.SBlock:
		b.kids = append(row(0, 3, stat), row(0, 1, just(api.SReturn))...)
	case api.SLocal, api.SReturn:
		b.kids = row(0, 2, exp)
	case api.SAssign:
		l := row(1, 3, target)
		b.node.N, b.kids = int64(len(l)), append(l, row(1, 2, exp)...)
	case api.SCall:
		b.kids = row(1, 1, func() int { return api.ECall + r.Intn(2) })
	case api.SWhile:
		b.kids = append(row(1, 1, exp), block()...)
	case api.SRepeat:
		b.kids = append(block(), row(1, 1, exp)...)
	case api.SIf:
		b.kids = append(append(row(1, 1, exp), block()...), row(0, 1, just(api.SBlock))...)
	case api.SFor:
		b.kids = append(row(2, 3, exp), block()...)
	case api.SEach:
		l := row(1, 3, exp)
		b.node.N, b.kids = int64(len(l)), append(l, block()...)
	case api.SFunc:
		b.kids = row(1, 1, just(api.EFunc))
	}
	return b
}

// spoiled is a tree with one thing of it changed by chance.
func spoiled(r *rand.Rand, x api.Tree) api.Tree {
	x.Nodes = slices.Clone(x.Nodes)
	n := &x.Nodes[r.Intn(len(x.Nodes))]
	switch r.Intn(9) {
	case 0:
		n.Kind = r.Intn(35) - 1
	case 1:
		n.Line = r.Intn(4) - 1
	case 2:
		n.Op = r.Intn(26) - 1
	case 3:
		n.N = int64(r.Intn(5) - 1)
	case 4:
		n.S = []string{"", "a", "in", "1"}[r.Intn(4)]
	case 5:
		n.Names = [][]string{nil, {"a"}, {"a", "b"}, {"a", "or"}}[r.Intn(4)]
	case 6:
		n.Kids = append(slices.Clone(n.Kids), r.Intn(len(x.Nodes)+2)-1)
	case 7:
		n.Kids = slices.Clone(n.Kids[:len(n.Kids)/2])
	case 8:
		x.Root = r.Intn(len(x.Nodes)+2) - 1
	}
	return x
}

// P6.1, P6.2: trees by chance, that may be and that have something wrong.
func TestByChance(t *testing.T) {
	r := rand.New(rand.NewSource(6))
	for range 4000 {
		b := grown(r, api.SBlock, 4)
		if b.size() > 400 {
			continue
		}
		x := asTree(b, r)
		taken(t, "grown", x)
		for range 10 {
			check(t, spoiled(r, x))
		}
	}
}

// P6.3: where nodes stand says nothing, of trees that are Right and of others.
func TestPlaces(t *testing.T) {
	r := rand.New(rand.NewSource(63))
	for range 2000 {
		b := grown(r, api.SBlock, 3)
		x, y := asTree(b, nil), asTree(b, r)
		if tree.Print(x) != tree.Print(y) || !tree.Right(y) || tree.Deep(x) != tree.Deep(y) {
			t.Fatalf("%s\n%s", tree.Print(x), tree.Print(y))
		}
		bad := spoiled(r, x)
		if bad.Root < 0 || bad.Root >= len(bad.Nodes) {
			continue
		}
		moved := replaced(bad, r.Perm(len(bad.Nodes)))
		if tree.Print(bad) != tree.Print(moved) || tree.Right(bad) != tree.Right(moved) || tree.Deep(bad) != tree.Deep(moved) {
			t.Fatalf("%s\n%s", short(bad), short(moved))
		}
	}
}

// replaced is a tree whose nodes are put elsewhere, its Kids with them; a Kid that is no place stays none.
func replaced(x api.Tree, to []int) api.Tree {
	y := api.Tree{Nodes: make([]api.Node, len(x.Nodes)), Root: to[x.Root]}
	for i, n := range x.Nodes {
		kids := slices.Clone(n.Kids)
		for j, k := range kids {
			if k >= 0 && k < len(to) {
				kids[j] = to[k]
			}
		}
		n.Kids = kids
		y.Nodes[to[i]] = n
	}
	return y
}

// P6.3: trees of the same text are the same but for their places.
func TestSameText(t *testing.T) {
	r := rand.New(rand.NewSource(633))
	met := map[string]api.Tree{}
	for range 20000 {
		b := grown(r, api.SBlock, 1)
		s, plain := tree.Print(asTree(b, r)), asTree(b, nil)
		if old, ok := met[s]; ok && !same(old, plain) {
			t.Fatalf("%s\n%s", short(old), short(plain))
		}
		met[s] = plain
	}
}

func same(a, b api.Tree) bool {
	return slices.EqualFunc(a.Nodes, b.Nodes, func(x, y api.Node) bool {
		return x.Kind == y.Kind && x.Line == y.Line && x.Op == y.Op && x.N == y.N && x.S == y.S && slices.Equal(x.Names, y.Names) && slices.Equal(x.Kids, y.Kids)
	})
}
