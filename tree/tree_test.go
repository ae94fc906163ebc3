package tree_test

import (
	"fmt"
	"math"
	"math/rand"
	"reflect"
	"slices"
	"strings"
	"testing"

	"selkie/api"
	"selkie/tree"
)

func one() api.Tree {
	return api.Tree{Nodes: []api.Node{
		{Kind: api.SBlock, Line: 1, Kids: []int{1}}, {Kind: api.SReturn, Line: 1, Kids: []int{2}}, {Kind: api.EInt, Line: 1, N: 1},
	}}
}

// chain is a tree of parens so deep that it has deep nodes from the root down; deep is 3 or more.
func chain(deep int) branch {
	b := of(api.ENil)
	for range deep - 3 {
		b = of(api.EParen, b)
	}
	return of(api.SBlock, of(api.SReturn, b))
}

// wide is a block of so many nodes in all.
func wide(nodes int) branch {
	return of(api.SBlock, slices.Repeat([]branch{of(api.SBreak)}, nodes-1)...)
}

// P6.1, P6.2: the chapter's example.
func TestExample(t *testing.T) {
	hold(t, "return 1", one(), 3, "(block@1 (return@1 (int@1 1)))")
}

// P6.1, P6.2: ordinary trees, and each Kind's word.
func TestOrdinary(t *testing.T) {
	for kind, want := range map[int]string{
		api.ENil: "(nil@1)", api.ETrue: "(true@1)", api.EFalse: "(false@1)", api.EMany: "(many@1)", api.EInt: "(int@1 0)", api.EStr: `(str@1 "")`, api.EName: `(name@1 "a")`,
		api.EIndex: "(index@1 (nil@1) (nil@1))", api.ECall: "(call@1 (nil@1))", api.EMethod: `(method@1 "a" (nil@1))`, api.EFunc: "(func@1 0 (block@1))",
		api.EBinary: "(binary@1 1 (nil@1) (nil@1))", api.EUnary: "(unary@1 20 (nil@1))", api.EParen: "(paren@1 (nil@1))", api.ETable: "(table@1)",
		api.IPos: "(pos@1 (nil@1))", api.IKey: "(key@1 (nil@1) (nil@1))", api.SBlock: "(block@1)", api.SLocal: "(local@1 a)", api.SAssign: `(assign@1 1 (name@1 "a") (nil@1))`,
		api.SCall: "(do-call@1 (call@1 (nil@1)))", api.SDo: "(do@1 (block@1))", api.SWhile: "(while@1 (nil@1) (block@1))", api.SRepeat: "(repeat@1 (block@1) (nil@1))",
		api.SIf: "(if@1 (nil@1) (block@1))", api.SFor: "(for@1 a (nil@1) (nil@1) (block@1))", api.SEach: "(each@1 1 a (nil@1) (block@1))", api.SFunc: "(local-func@1 a (func@1 0 (block@1)))",
		api.SReturn: "(return@1)", api.SBreak: "(break@1)", api.SGoto: `(goto@1 "a")`, api.SLabel: `(label@1 "a")`,
	} {
		x := asTree(under(leaf(kind)), nil)
		if got := tree.Print(x); !tree.Right(x) || !strings.Contains(got, want) {
			t.Errorf("%s: %s", want, got)
		}
		check(t, x)
	}
}

// P6.2: each field that a Kind has, Op, N, S, Names, in their order, then the Kids in theirs.
func TestFieldsInOrder(t *testing.T) {
	at := func(line int, b branch) branch { return b.with(func(n *api.Node) { n.Line = line }) }
	b := at(1, of(api.SBlock,
		at(2, of(api.SEach, at(3, of(api.EInt)).with(func(n *api.Node) { n.N = 7 }), at(4, of(api.EStr)).with(func(n *api.Node) { n.S = "x y" }), at(5, of(api.SBlock)))).with(func(n *api.Node) { n.N, n.Names = 2, []string{"k", "v", "k"} }),
		at(6, of(api.SReturn, at(7, of(api.EFunc, at(8, of(api.SBlock)))).with(func(n *api.Node) { n.N, n.Names = 1, []string{"p", "q"} }), at(9, of(api.EBinary, at(10, of(api.ETrue)), at(math.MaxInt, of(api.EFalse)))).with(func(n *api.Node) { n.Op = api.Or }),
			at(11, of(api.EMethod, of(api.EName).with(func(n *api.Node) { n.S = "o" }), of(api.EMany))).with(func(n *api.Node) { n.S = "m" })))))
	hold(t, "fields", asTree(b, nil), 4, `(block@1 (each@2 2 k v k (int@3 7) (str@4 "x y") (block@5)) (return@6 (func@7 1 p q (block@8)) (binary@9 19 (true@10) (false@9223372036854775807)) (method@11 "m" (name@1 "o") (many@1))))`)
}

// P6.2: N of any size, and S with bytes that q writes otherwise, or doesn't.
func TestPrintNumbersAndStrings(t *testing.T) {
	for n, want := range map[int64]string{0: "0", 9: "9", 10: "10", -1: "-1", math.MaxInt64: "9223372036854775807", math.MinInt64: "-9223372036854775808"} {
		b := under(of(api.EInt).with(func(x *api.Node) { x.N = n }))
		hold(t, want, asTree(b, nil), 3, "(block@1 (return@1 (int@1 "+want+")))")
	}
	for s, want := range map[string]string{
		"": `""`, "a\"b": `"a\"b"`, `a\b`: `"a\\b"`, "a\nb": `"a\nb"`, "a\rb": `"a\rb"`, "a\x00b": `"a\x00b"`, "\x001": `"\x001"`, "\t": "\"\t\"", "'": `"'"`, "\xff\x80é": "\"\xff\x80é\"", `") (nil@1`: `"\") (nil@1"`, "%d%q": `"%d%q"`,
	} {
		b := under(of(api.EStr).with(func(x *api.Node) { x.S = s }))
		hold(t, want, asTree(b, nil), 3, "(block@1 (return@1 (str@1 "+want+")))")
	}
	for c := range 256 {
		check(t, asTree(under(of(api.EStr).with(func(x *api.Node) { x.S = "a" + string([]byte{byte(c)}) + "0" })), nil))
	}
	for _, size := range []int{api.MaxStr, api.MaxStr + 1, 1 << 20} {
		s := strings.Repeat("\x00", size)
		hold(t, "a long string", asTree(under(of(api.EStr).with(func(x *api.Node) { x.S = s })), nil), 3, `(block@1 (return@1 (str@1 "`+strings.Repeat(`\x00`, size)+`")))`)
	}
}

// P6.1: which trees are sound.
func TestSound(t *testing.T) {
	taken(t, "one node", api.Tree{Nodes: []api.Node{{Kind: api.SBlock, Line: 1}}})
	refused(t, "no node", api.Tree{}, 0)
	refused(t, "no node, an empty list", api.Tree{Nodes: []api.Node{}}, 0)
	for _, root := range []int{-1, 1, 2, math.MinInt, math.MaxInt} {
		refused(t, "no node, a root", api.Tree{Root: root}, 0)
		refused(t, "a root beyond the nodes", api.Tree{Root: root, Nodes: []api.Node{{Kind: api.SBlock, Line: 1}}}, 0)
	}
	last := asTree(under(leaf(api.EInt)), nil)
	slices.Reverse(last.Nodes)
	last.Root, last.Nodes[2].Kids, last.Nodes[1].Kids = 2, []int{1}, []int{0}
	hold(t, "the root at the last place", last, 3, "(block@1 (return@1 (int@1 0)))")
	last.Root = 3
	refused(t, "the root behind the last place", last, 0)
	for what, x := range map[string]struct{ kids [][]int }{
		"a Kid below 0":            {[][]int{{1}, {-1}, {}}},
		"a Kid far below 0":        {[][]int{{1}, {math.MinInt}, {}}},
		"a Kid behind the last":    {[][]int{{1}, {3}, {}}},
		"a Kid far behind":         {[][]int{{1}, {math.MaxInt}, {}}},
		"a Kid beside a right one": {[][]int{{1}, {2, 3}, {}}},
		"named twice by one":       {[][]int{{1}, {2, 2}, {}}},
		"named twice by two":       {[][]int{{1, 2}, {2}, {}}},
		"the root named":           {[][]int{{1}, {2}, {0}}},
		"the root named by it":     {[][]int{{0, 1}, {2}, {}}},
		"named by itself":          {[][]int{{1}, {}, {2}}},
		"named by nobody":          {[][]int{{1}, {}, {}}},
		"nobody names a naming":    {[][]int{{1}, {}, {}, {}}},
		"names what hangs":         {[][]int{{1}, {}, {1}}},
		"a ring":                   {[][]int{{}, {2}, {1}}},
		"a ring of three":          {[][]int{{}, {2}, {3}, {1}}},
		"a ring and a branch":      {[][]int{{1}, {}, {3}, {2}}},
		"a ring with the root":     {[][]int{{1}, {2}, {0}}},
	} {
		bad := api.Tree{}
		for i, kids := range x.kids {
			bad.Nodes = append(bad.Nodes, api.Node{Kind: []int{api.SBlock, api.SReturn, api.EParen, api.EParen}[i], Line: 1, Kids: kids})
		}
		refused(t, what, bad, 0)
	}
}

// P6.1: MaxNodes nodes, and one more, sound and Right but for that.
func TestMaxNodes(t *testing.T) {
	for nodes, deep := range map[int]int{api.MaxNodes - 1: 2, api.MaxNodes: 2, api.MaxNodes + 1: 0, api.MaxNodes * 2: 0} {
		x := asTree(wide(nodes), nil)
		want := ""
		if deep > 0 {
			want = "(block@1" + strings.Repeat(" (break@1)", nodes-1) + ")"
		}
		hold(t, fmt.Sprint(nodes), x, deep, want)
	}
}

// P6.1: every tree of up to three nodes with up to two Kids each, places beyond the ends among them.
func TestEachShortTree(t *testing.T) {
	for n := range 4 {
		lists := [][]int{nil}
		for a := -1; a <= n; a++ {
			lists = append(lists, []int{a})
			for b := -1; b <= n; b++ {
				lists = append(lists, []int{a, b})
			}
		}
		x := api.Tree{Nodes: make([]api.Node, n)}
		var fill func(at int)
		fill = func(at int) {
			if at == n {
				for x.Root = -1; x.Root <= n; x.Root++ {
					if got, want := tree.Deep(x), depth(x); got != want {
						t.Fatalf("Deep %d, not %d: %s", got, want, short(x))
					}
					if tree.Right(x) || tree.Print(x) != "" {
						t.Fatalf("Right without Kinds: %s", short(x))
					}
				}
				return
			}
			for _, l := range lists {
				x.Nodes[at].Kids = l
				fill(at + 1)
			}
		}
		fill(0)
	}
}

// P6.1: depths of MaxDeep and one more, of trees that are sound and Right but for that, sound but not Right, and not sound.
func TestDepth(t *testing.T) {
	for deep := 3; deep <= api.MaxDeep+3; deep++ {
		want := ""
		if deep <= 100 {
			want = "(block@1 (return@1 " + strings.Repeat("(paren@1 ", deep-3) + "(nil@1)" + strings.Repeat(")", deep-3) + "))"
		}
		x := asTree(chain(deep), nil)
		hold(t, fmt.Sprint("depth ", deep), x, deep, want)
		wrong := asTree(chain(deep), nil)
		wrong.Nodes[0].Line = 0
		refused(t, "a line", wrong, deep)
		wrong = asTree(chain(deep), nil)
		wrong.Nodes[deep-1].Kind = 0
		refused(t, "no Kind", wrong, deep)
		loose := asTree(chain(deep), nil)
		loose.Nodes = append(loose.Nodes, api.Node{Kind: api.SBreak, Line: 1})
		refused(t, "a loose node", loose, 0)
	}
	for _, deep := range []int{1, 2, 1000, api.MaxNodes} {
		x := api.Tree{Nodes: make([]api.Node, deep)}
		for i := range deep - 1 {
			x.Nodes[i].Kids = []int{i + 1}
		}
		if tree.Deep(x) != deep || tree.Right(x) || tree.Print(x) != "" {
			t.Error("nodes of no Kind", deep, tree.Deep(x))
		}
		x.Nodes[deep-1].Kids = []int{0}
		if tree.Deep(x) != 0 || tree.Right(x) || tree.Print(x) != "" {
			t.Error("a ring of all", deep, tree.Deep(x))
		}
	}
}

// P6.1: the deepest is counted, whichever Kid it hangs on.
func TestDeepestKid(t *testing.T) {
	deep := of(api.SDo, of(api.SBlock, of(api.SDo, of(api.SBlock, of(api.SBreak)))))
	for at := range 4 {
		l := slices.Repeat([]branch{of(api.SBreak)}, 3)
		b := of(api.SBlock, slices.Insert(l, at, deep)...)
		if x := asTree(b, nil); tree.Deep(x) != 6 || !tree.Right(x) {
			t.Error(at, tree.Deep(x))
		}
		check(t, asTree(b, nil))
	}
}

// P6.1: the root is a block.
func TestRoot(t *testing.T) {
	for kind := -1; kind <= 34; kind++ {
		b := leaf(kind)
		x := asTree(b, nil)
		if tree.Right(x) != (kind == api.SBlock) || tree.Deep(x) == 0 {
			t.Error(kind, tree.Right(x), tree.Deep(x))
		}
		check(t, x)
	}
}

// P6.1: Kinds below the first and above the last, wherever they stand.
func TestNoSuchKind(t *testing.T) {
	for _, kind := range []int{0, -1, 33, 34, 64, math.MinInt, math.MaxInt} {
		bad := of(kind)
		for what, b := range map[string]branch{
			"the root": bad, "a statement": of(api.SBlock, bad), "a last statement": of(api.SBlock, of(api.SBreak), bad), "an expression": of(api.SBlock, of(api.SReturn, bad)), "an item": under(of(api.ETable, bad)),
			"a target": of(api.SBlock, of(api.SAssign, bad, of(api.ENil))), "a call": of(api.SBlock, of(api.SCall, bad)), "a function": of(api.SBlock, of(api.SFunc, bad)), "a block": of(api.SBlock, of(api.SDo, bad)),
		} {
			x := asTree(b, nil)
			refused(t, what, x, depth(x))
		}
	}
}

// P6.1: a Line is 1 or more, of each Kind.
func TestLine(t *testing.T) {
	for kind := api.ENil; kind <= api.SLabel; kind++ {
		for _, line := range []int{1, 2, math.MaxInt, 0, -1, math.MinInt} {
			x := asTree(under(leaf(kind).with(func(n *api.Node) { n.Line = line })), nil)
			if tree.Right(x) != (line >= 1) {
				t.Error(kind, line)
			}
			check(t, x)
		}
	}
}

// P6.1, P6.2: nil and empty lists are one.
func TestEmptyLists(t *testing.T) {
	for kind := api.ENil; kind <= api.SLabel; kind++ {
		x := asTree(under(leaf(kind)), nil)
		y := asTree(under(leaf(kind)), nil)
		for i := range y.Nodes {
			x.Nodes[i].Names, x.Nodes[i].Kids = orNil(x.Nodes[i].Names), orNil(x.Nodes[i].Kids)
			y.Nodes[i].Names, y.Nodes[i].Kids = append([]string{}, y.Nodes[i].Names...), append([]int{}, y.Nodes[i].Kids...)
		}
		if !tree.Right(x) || !tree.Right(y) || tree.Print(x) != tree.Print(y) || tree.Deep(x) != tree.Deep(y) {
			t.Error(kind)
		}
	}
}

func orNil[T any](l []T) []T {
	if len(l) == 0 {
		return nil
	}
	return l
}

// P6.1, P6.2: what is handed in isn't changed, nor is its spare room; and what is answered hangs on it alone.
func TestHandedIn(t *testing.T) {
	r := rand.New(rand.NewSource(61))
	for range 200 {
		b := grown(r, api.SBlock, 3)
		x := roomy(asTree(b, r))
		before := roomy(x)
		first := tree.Print(x)
		for range 3 {
			if tree.Print(x) != first || !tree.Right(x) || tree.Deep(x) != depth(x) {
				t.Fatal("otherwise the second time")
			}
		}
		if !reflect.DeepEqual(whole(x), whole(before)) {
			t.Fatalf("changed: %s", short(x))
		}
	}
}

// roomy is a copy of a tree, each list with spare room that isn't zero.
func roomy(x api.Tree) api.Tree {
	y := api.Tree{Root: x.Root}
	for _, n := range x.Nodes {
		n.Names = append(slices.Clone(n.Names), "spare", "room")[:len(n.Names)]
		n.Kids = append(slices.Clone(n.Kids), -7, -8)[:len(n.Kids)]
		y.Nodes = append(y.Nodes, n)
	}
	y.Nodes = append(y.Nodes, api.Node{Kind: -9})[:len(y.Nodes)]
	return y
}

// whole is a tree with its spare room, but as much as roomy gave.
func whole(x api.Tree) []any {
	l := []any{x.Root, x.Nodes[:len(x.Nodes)+1][len(x.Nodes)]}
	for _, n := range x.Nodes {
		l = append(l, n.Kind, n.Line, n.Op, n.N, n.S, n.Names[:len(n.Names)+2], n.Kids[:len(n.Kids)+2])
	}
	return l
}

// P6.1, P6.2: calls end without a panic, whatever they are given.
func TestWrongTrees(t *testing.T) {
	many := make([]int, 1<<20)
	for i := range many {
		many[i] = 1
	}
	refused(t, "a Kid named very often", api.Tree{Nodes: []api.Node{{Kind: api.SBlock, Line: 1, Kids: many}, {Kind: api.SBreak, Line: 1}}}, 0)
	refused(t, "very many nodes", api.Tree{Nodes: make([]api.Node, 1<<20)}, 0)
	refused(t, "a great N", asTree(under(num(leaf(api.SAssign), math.MaxInt64)), nil), 3)
	r := rand.New(rand.NewSource(60))
	for range 20000 {
		n := r.Intn(6)
		x := api.Tree{Root: r.Intn(n+3) - 1}
		for range n {
			node := api.Node{Kind: r.Intn(40) - 3, Line: r.Intn(4) - 1, Op: r.Intn(30) - 3, N: int64(r.Uint64()) >> r.Intn(64), S: strings.Repeat("a", r.Intn(2)), Names: make([]string, r.Intn(2))}
			for range r.Intn(3) {
				node.Kids = append(node.Kids, r.Intn(n+2)-1)
			}
			x.Nodes = append(x.Nodes, node)
		}
		check(t, x)
	}
}
