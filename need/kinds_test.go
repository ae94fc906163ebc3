package need_test

import (
	"fmt"
	"slices"
	"strconv"
	"strings"
	"testing"

	"selkie/api"
	"selkie/tree"
)

// piece is a node and what hangs on it.
type piece struct {
	node api.Node
	kids []piece
}

func of(n api.Node, kids ...piece) piece { return piece{n, kids} }

func kind(kind int, kids ...piece) piece { return of(api.Node{Kind: kind}, kids...) }

// put puts a piece into a tree; nodes without a line get that of the node they hang on.
func put(x *api.Tree, p piece, line int) int {
	at := len(x.Nodes)
	x.Nodes = append(x.Nodes, api.Node{})
	n := p.node
	if n.Line == 0 {
		n.Line = line
	}
	for _, k := range p.kids {
		n.Kids = append(n.Kids, put(x, k, n.Line))
	}
	x.Nodes[at] = n
	return at
}

// laid is the tree of a block.
func laid(t *testing.T, block piece) api.Tree {
	t.Helper()
	var x api.Tree
	x.Root = put(&x, block, 1)
	if !tree.Right(x) {
		t.Fatalf("%+v isn't Right", block)
	}
	return x
}

func name(s string) piece { return of(api.Node{Kind: api.EName, S: s}) }

// exp is an expression that needs so many places.
func exp(wide int) piece {
	p := kind(api.ECall, name("f"))
	for range wide - 1 {
		p.kids = append(p.kids, of(api.Node{Kind: api.EInt, N: 7}))
	}
	return p
}

func exps(wide []int) []piece {
	var l []piece
	for _, w := range wide {
		l = append(l, exp(w))
	}
	return l
}

// set is a statement that needs so many places.
func set(wide int) piece { return of(api.Node{Kind: api.SAssign, N: 1}, name("x"), exp(wide)) }

// block is a block that needs so many places.
func block(wide int) piece {
	if wide == 0 {
		return kind(api.SBlock)
	}
	return kind(api.SBlock, set(1), set(wide), set(1))
}

func function(wide int, names ...string) piece {
	return of(api.Node{Kind: api.EFunc, Names: names}, block(wide))
}

// whole is the block of an expression or of a statement.
func whole(p piece) piece {
	if p.node.Kind <= api.ETable {
		p = kind(api.SReturn, p)
	}
	return kind(api.SBlock, p)
}

// list is numbers with commas between.
func list(t *testing.T, text string) []int {
	t.Helper()
	var l []int
	for s := range strings.SplitSeq(text, ",") {
		if s == "" {
			continue
		}
		n, err := strconv.Atoi(s)
		if err != nil {
			t.Fatal(err)
		}
		l = append(l, n)
	}
	return l
}

// needs holds nodes of a Kind, made with Kids that need so many places, against what they need: "1,5=6" says that with Kids that
// need 1 and 5 it needs 6; the root's locals are among these.
func needs(t *testing.T, what string, make func(wide []int) piece, cases string) {
	t.Helper()
	for one := range strings.FieldsSeq(cases) {
		wide, want, _ := strings.Cut(one, "=")
		l, wrong := check(t, laid(t, whole(make(list(t, wide)))))
		if wrong.err != api.OK || strconv.Itoa(l[0]) != want {
			t.Errorf("%s %s: %v, %v", what, one, l, wrong.err)
		}
	}
}

// with makes a node whose Kids are expressions.
func with(n api.Node) func([]int) piece {
	return func(wide []int) piece { return of(n, exps(wide)...) }
}

// onto makes a node whose last Kid is a block.
func onto(n api.Node) func([]int) piece {
	return func(wide []int) piece {
		last := len(wide) - 1
		return of(n, append(exps(wide[:last]), block(wide[last]))...)
	}
}

// P9.1: expressions that need one place.
func TestPlainKinds(t *testing.T) {
	for what, n := range map[string]api.Node{
		"nil": {Kind: api.ENil}, "true": {Kind: api.ETrue}, "false": {Kind: api.EFalse}, "int": {Kind: api.EInt, N: -5},
		"str": {Kind: api.EStr, S: "a b"}, "many": {Kind: api.EMany}, "name": {Kind: api.EName, S: "a"},
	} {
		needs(t, what, with(n), "=1")
	}
	needs(t, "function", onto(api.Node{Kind: api.EFunc}), "0=1 1=1 2=1 9=1")
	needs(t, "function of names", onto(api.Node{Kind: api.EFunc, N: 1, Names: []string{"a", "b", "c"}}), "0=1 1=1 9=1")
}

// P9.1: operators, indexes and brackets, each of their operands the one that needs most.
func TestOperators(t *testing.T) {
	const two = "1,1=2 5,1=5 1,5=6 5,5=6 6,5=6 7,5=7 5,4=5 2,1=2 1,2=3"
	needs(t, "index", with(api.Node{Kind: api.EIndex}), two)
	for op := api.Add; op <= api.Or; op++ {
		cases := two
		if op == api.And || op == api.Or {
			cases = "1,1=1 5,1=5 1,5=5 5,5=5 6,5=6 5,6=6 2,1=2 1,2=2"
		}
		needs(t, fmt.Sprint("binary ", op), with(api.Node{Kind: api.EBinary, Op: op}), cases)
	}
	for op := api.Neg; op <= api.Len; op++ {
		needs(t, fmt.Sprint("unary ", op), with(api.Node{Kind: api.EUnary, Op: op}), "1=1 2=2 5=5")
	}
	needs(t, "paren", with(api.Node{Kind: api.EParen}), "1=1 2=2 5=5")
}

// P9.1: calls, each of their arguments the one that needs most.
func TestCalls(t *testing.T) {
	const row = "1=1 5=5 1,1=2 1,1,1=3 1,1,1,1=4 2,1=2 3,1=3 2,2=3 3,2=3 5,1,1=5 1,5,1=6 1,1,5=7 5,5,5=7 4,3,2=4 9,3,2=9 5,3,2=5 4,4,2=5 4,3,3=5 1,1,1,1,9=13 1,1,9,1,1=11"
	needs(t, "call", with(api.Node{Kind: api.ECall}), row)
	needs(t, "a call alone", func(wide []int) piece { return kind(api.SCall, kind(api.ECall, exps(wide)...)) }, row)
	const method = "1=2 2=2 3=3 5=5 1,1=3 3,1=3 4,1=4 1,1,1=4 1,1,1,1=5 5,1=5 1,5=7 5,5=7 7,5=7 8,5=8 1,5,1=7 1,1,5=8 5,1,1=5 5,3,2=5 6,3,2=6 5,4,2=6 5,3,3=6 1,1,1,1,9=14 1,9,1,1,1=11"
	needs(t, "method", with(api.Node{Kind: api.EMethod, S: "m"}), method)
	needs(t, "a method alone", func(wide []int) piece {
		return kind(api.SCall, of(api.Node{Kind: api.EMethod, S: "m"}, exps(wide)...))
	}, method)
}

// items makes a table: p stands for an item by place, k for one by key.
func items(sorts string) func([]int) piece {
	return func(wide []int) piece {
		table := kind(api.ETable)
		for _, c := range sorts {
			if c == 'p' {
				table.kids = append(table.kids, kind(api.IPos, exps(wide[:1])...))
				wide = wide[1:]
			} else {
				table.kids = append(table.kids, kind(api.IKey, exps(wide[:2])...))
				wide = wide[2:]
			}
		}
		return table
	}
}

// P9.1: tables, each of their items the one that needs most, its key or its value.
func TestTables(t *testing.T) {
	needs(t, "table", items(""), "=1")
	needs(t, "table", items("p"), "1=2 2=3 5=6")
	needs(t, "table", items("pppp"), "1,1,1,1=2 5,1,1,1=6 1,5,1,1=6 1,1,5,1=6 1,1,1,5=6 5,5,5,5=6 5,4,3,2=6 2,3,4,5=6")
	needs(t, "table", items("k"), "1,1=3 5,1=6 1,5=7 5,5=7 6,5=7 7,5=8 2,1=3 3,1=4 1,2=4")
	needs(t, "table", items("kk"), "1,1,1,1=3 5,1,1,1=6 1,5,1,1=7 1,1,5,1=6 1,1,1,5=7 5,5,5,5=7")
	needs(t, "table", items("pk"), "1,1,1=3 5,1,1=6 1,5,1=6 1,1,5=7 5,5,5=7 2,1,1=3 3,1,1=4")
	needs(t, "table", items("kp"), "1,1,1=3 5,1,1=6 1,5,1=7 1,1,5=6 5,5,5=7")
	needs(t, "table", items("pkp"), "1,1,1,1=3 9,1,1,5=10 1,9,1,1=10 1,1,9,1=11 1,1,1,9=10")
	// As the argument of the number 2, behind three places.
	needs(t, "table in a call", func(wide []int) piece {
		return kind(api.ECall, append(exps([]int{1, 1, 1}), items("pk")(wide))...)
	}, "1,1,1=6 5,1,1=9 1,5,1=9 1,1,5=10")
}

// P9.1: values of a local and of a return.
func TestValues(t *testing.T) {
	needs(t, "return", with(api.Node{Kind: api.SReturn}), "=0 1=1 5=5 1,1=2 5,1=5 1,5=6 5,5=6 1,1,1=3 5,1,1=5 1,5,1=6 1,1,5=7 3,2,1=3 4,2,1=4 3,3,1=4 3,2,2=4 1,1,1,9=12")
	needs(t, "local", with(api.Node{Kind: api.SLocal, Names: []string{"a"}}), "=1 1=2 5=6 1,1=3 5,1=6 1,5=7 1,1,1=4 5,1,1=6 1,5,1=7 1,1,5=8 3,2,1=4 3,3,1=5 3,2,2=5")
	needs(t, "locals", with(api.Node{Kind: api.SLocal, Names: []string{"a", "b", "c"}}), "=3 1=4 1,1=5 1,1,1=6 1,1,1,1=7 5,1=8 1,5=9 1,1,1,5=11")
}

// assign makes an assignment: n stands for a target that is a name, i for one that is an index.
func assign(targets string) func([]int) piece {
	return func(wide []int) piece {
		set := of(api.Node{Kind: api.SAssign, N: int64(len(targets))})
		for _, c := range targets {
			if c == 'n' {
				set.kids = append(set.kids, name("x"))
				continue
			}
			set.kids = append(set.kids, kind(api.EIndex, exps(wide[:2])...))
			wide = wide[2:]
		}
		set.kids = append(set.kids, exps(wide)...)
		return set
	}
}

// P9.1: assignments, each of their targets' parts, and each of their values, the one that needs most.
func TestAssignments(t *testing.T) {
	for _, names := range []string{"n", "nn", "nnn"} {
		needs(t, names, assign(names), "1=1 5=5 1,1=2 5,1=5 1,5=6 1,1,1=3 1,1,5=7 1,5,1=6 5,1,1=5 3,2,1=3")
	}
	for _, one := range []string{"i", "in", "ni", "nin", "inn", "nni"} {
		needs(t, one, assign(one), "1,1,1=3 5,1,1=5 1,5,1=6 1,1,5=7 5,5,5=7 2,1,1=3 3,1,1=3 4,1,1=4 1,2,1=3 1,3,1=4 1,1,2=4 "+
			"1,1,1,1=4 5,1,1,1=5 1,5,1,1=6 1,1,5,1=7 1,1,1,5=8 1,1,1,1,1=5 1,1,1,1,5=9 5,4,3,2=5 5,4,4,2=6 5,4,3,3=6")
	}
	for _, two := range []string{"ii", "ini", "iin", "nii", "ninin"} {
		needs(t, two, assign(two), "1,1,1,1,1=5 5,1,1,1,1=5 6,1,1,1,1=6 1,5,1,1,1=6 1,1,5,1,1=7 1,1,1,5,1=8 1,1,1,1,5=9 5,5,5,5,5=9 "+
			"1,1,1,1,1,1=6 1,1,5,1,1,1=7 1,1,1,1,5,1=9 1,1,1,1,1,5=10 9,8,7,6,5,4=9 9,9,7,6,5,4=10 9,8,8,6,5,4=10 9,8,7,7,5,4=10 9,8,7,6,6,4=10 9,8,7,6,5,5=10")
	}
	needs(t, "iii", assign("iii"), "1,1,1,1,1,1,1=7 5,1,1,1,1,1,1=7 1,1,1,1,5,1,1=9 1,1,1,1,1,5,1=10 1,1,1,1,1,1,5=11 1,1,1,1,1,1,1,5=12 1,1,9,1,1,1,1=11 1,1,1,9,1,1,1=12")
	// An index of an index, as a target.
	deep := func(wide []int) piece {
		first := kind(api.EIndex, exps(wide[:2])...)
		return of(api.Node{Kind: api.SAssign, N: 1}, kind(api.EIndex, first, exp(wide[2])), exp(wide[3]))
	}
	needs(t, "deep", deep, "1,1,1,1=3 5,1,1,1=5 1,5,1,1=6 1,1,5,1=6 1,1,1,5=7")
	// A target that is a name needs no place, but as a part of one, or as a value, it does.
	other := func(wide []int) piece {
		return of(api.Node{Kind: api.SAssign, N: 2}, name("x"), kind(api.EIndex, name("t"), exp(wide[0])), name("y"), exp(wide[1]))
	}
	needs(t, "names", other, "1,1=4 5,1=6 1,5=8")
}

// P9.1: loops and branches, their tests, values and blocks each the one that needs most.
func TestLoops(t *testing.T) {
	needs(t, "while", onto(api.Node{Kind: api.SWhile}), "1,0=1 5,0=5 1,5=5 5,5=5 5,6=6 6,5=6 1,1=1")
	needs(t, "repeat", func(wide []int) piece { return kind(api.SRepeat, block(wide[0]), exp(wide[1])) }, "0,1=1 0,5=5 5,1=5 5,5=5 6,5=6 5,6=6 1,1=1")
	needs(t, "do", onto(api.Node{Kind: api.SDo}), "0=0 1=1 5=5")
	for _, last := range []bool{false, true} {
		branches := func(wide []int) piece {
			p := kind(api.SIf)
			for len(wide) > 1 {
				p.kids = append(p.kids, exp(wide[0]), block(wide[1]))
				wide = wide[2:]
			}
			if last {
				p.kids = append(p.kids, block(wide[0]))
			}
			return p
		}
		cases := "1,0=1 5,0=5 1,5=5 5,5=5 5,6=6 1,0,1,0=1 5,0,1,0=5 1,5,1,0=5 1,0,5,0=5 1,0,1,5=5 1,0,1,0,7,0=7 1,0,1,0,1,7=7 1,2,3,4,5,6=6 6,5,4,3,2,1=6"
		if last {
			cases = "1,0,0=1 5,0,0=5 1,5,0=5 1,0,5=5 5,5,5=5 1,0,1,0,0=1 5,0,1,0,0=5 1,5,1,0,0=5 1,0,5,0,0=5 1,0,1,5,0=5 1,0,1,0,5=5 1,2,3,4,5=5"
		}
		needs(t, "if", branches, cases)
	}
	count := onto(api.Node{Kind: api.SFor, Names: []string{"i"}})
	needs(t, "for", count, "1,1,0=4 2,1,0=4 3,1,0=4 4,1,0=5 5,1,0=6 1,2,0=4 1,3,0=5 1,5,0=7 1,1,1=5 1,1,5=9 5,5,0=7 8,7,5=9 9,7,5=10 8,8,5=10 8,7,6=10")
	needs(t, "for with step", count, "1,1,1,0=4 4,1,1,0=5 1,3,1,0=5 1,1,2,0=5 5,1,1,0=6 1,5,1,0=7 1,1,5,0=8 1,1,1,5=9 8,7,6,5=9 9,7,6,5=10 8,8,6,5=10 8,7,7,5=10 8,7,6,6=10")
	for values := range 4 {
		// Of the values all but one need 1 place.
		for at := range values + 1 {
			in := func(names ...string) func(wide []int) piece {
				return func(wide []int) piece {
					l := slices.Repeat([]int{1}, values+1)
					l[at] = wide[0]
					return onto(api.Node{Kind: api.SEach, N: int64(values + 1), Names: names})(append(l, wide[1]))
				}
			}
			cases := fmt.Sprintf("1,0=7 %d,0=7 %d,0=8 %d,0=12 1,1=7 1,3=7 1,4=8 1,7=11 %d,7=11 %d,7=12", 6-at, 7-at, 11-at, 10-at, 11-at)
			needs(t, fmt.Sprint("each ", values, at), in("k"), cases)
			needs(t, fmt.Sprint("each of two ", values, at), in("k", "v"), strings.NewReplacer("=7", "=8", "=8", "=9", "=11", "=12", "=12", "=13").Replace(cases))
		}
	}
}

// P9.1: blocks, local functions, and statements that need nothing.
func TestStatements(t *testing.T) {
	statements := func(wide []int) piece {
		p := kind(api.SBlock)
		for _, w := range wide {
			p.kids = append(p.kids, set(w))
		}
		return kind(api.SDo, p)
	}
	needs(t, "block", statements, "=0 1=1 5=5 5,1,1=5 1,5,1=5 1,1,5=5 1,1,1,1,1=1 5,5,5=5")
	needs(t, "local function", func(wide []int) piece {
		return of(api.Node{Kind: api.SFunc, Names: []string{"f"}}, function(wide[0]))
	}, "0=2 1=2 9=2")
	label, jump := of(api.Node{Kind: api.SLabel, S: "l"}), of(api.Node{Kind: api.SGoto, S: "l"})
	needs(t, "label", func([]int) piece { return label }, "=0")
	needs(t, "goto", func([]int) piece { return kind(api.SDo, kind(api.SBlock, label, jump, jump)) }, "=0")
	needs(t, "goto and more", func(wide []int) piece { return kind(api.SDo, kind(api.SBlock, jump, set(wide[0]), label)) }, "1=1 5=5")
	needs(t, "break", func(wide []int) piece {
		return kind(api.SWhile, exp(wide[0]), kind(api.SBlock, kind(api.SBreak)))
	}, "1=1 5=5")
	needs(t, "break in a for", func([]int) piece {
		return of(api.Node{Kind: api.SFor, Names: []string{"i"}}, exp(1), exp(1), kind(api.SBlock, kind(api.SBreak)))
	}, "=4")
}

// P9.1: each Kind within each Kind, behind as many places as are held there.
func TestWithin(t *testing.T) {
	for what, one := range map[string]struct {
		in   func(p piece) piece
		held int
	}{
		"index":        {func(p piece) piece { return kind(api.EIndex, p, exp(1)) }, 0},
		"key of index": {func(p piece) piece { return kind(api.EIndex, exp(1), p) }, 1},
		"left":         {func(p piece) piece { return of(api.Node{Kind: api.EBinary, Op: api.Lt}, p, exp(1)) }, 0},
		"right":        {func(p piece) piece { return of(api.Node{Kind: api.EBinary, Op: api.Concat}, exp(1), p) }, 1},
		"left of and":  {func(p piece) piece { return of(api.Node{Kind: api.EBinary, Op: api.And}, p, exp(1)) }, 0},
		"right of and": {func(p piece) piece { return of(api.Node{Kind: api.EBinary, Op: api.And}, exp(1), p) }, 0},
		"right of or":  {func(p piece) piece { return of(api.Node{Kind: api.EBinary, Op: api.Or}, exp(1), p) }, 0},
		"unary":        {func(p piece) piece { return of(api.Node{Kind: api.EUnary, Op: api.Not}, p) }, 0},
		"paren":        {func(p piece) piece { return kind(api.EParen, p) }, 0},
		"called":       {func(p piece) piece { return kind(api.ECall, p, exp(1)) }, 0},
		"argument":     {func(p piece) piece { return kind(api.ECall, exp(1), p) }, 1},
		"argument 3":   {func(p piece) piece { return kind(api.ECall, exp(1), exp(1), exp(1), exp(1), p) }, 4},
		"method of":    {func(p piece) piece { return of(api.Node{Kind: api.EMethod, S: "m"}, p) }, 0},
		"method's":     {func(p piece) piece { return of(api.Node{Kind: api.EMethod, S: "m"}, exp(1), p) }, 2},
		"method's 3":   {func(p piece) piece { return of(api.Node{Kind: api.EMethod, S: "m"}, exp(1), exp(1), exp(1), exp(1), p) }, 5},
		"item":         {func(p piece) piece { return kind(api.ETable, kind(api.IPos, exp(1)), kind(api.IPos, p)) }, 1},
		"item's key":   {func(p piece) piece { return kind(api.ETable, kind(api.IKey, p, exp(1))) }, 1},
		"item by key":  {func(p piece) piece { return kind(api.ETable, kind(api.IKey, exp(1), p)) }, 2},
		"three of them": {func(p piece) piece {
			return kind(api.EIndex, exp(1), kind(api.EIndex, exp(1), kind(api.EIndex, exp(1), p)))
		}, 3},
	} {
		for _, wide := range []int{7, 8, 20} {
			for _, p := range []piece{
				exp(wide),
				kind(api.EIndex, exp(wide), exp(1)),
				of(api.Node{Kind: api.EBinary, Op: api.Sub}, exp(1), exp(wide-1)),
				of(api.Node{Kind: api.EBinary, Op: api.Or}, exp(1), exp(wide)),
				of(api.Node{Kind: api.EUnary, Op: api.Neg}, exp(wide)),
				kind(api.EParen, exp(wide)),
				of(api.Node{Kind: api.EMethod, S: "m"}, exp(1), exp(wide-2)),
				kind(api.ETable, kind(api.IPos, exp(wide-1))),
				kind(api.ETable, kind(api.IKey, exp(1), exp(wide-2))),
			} {
				needs(t, what, func([]int) piece { return one.in(p) }, fmt.Sprint("=", one.held+wide))
				twice := func([]int) piece { return one.in(one.in(p)) }
				needs(t, what, twice, fmt.Sprint("=", 2*one.held+wide))
			}
		}
		// Of a function within nothing counts but the value.
		least, _ := check(t, laid(t, whole(one.in(exp(1)))))
		l, _ := check(t, laid(t, whole(one.in(function(200)))))
		if l[0] != least[0] || l[1] != 200 {
			t.Error(what, l)
		}
	}
}
