package need_test

import (
	"math/rand"
	"slices"
	"strconv"
	"testing"

	"selkie/api"
	"selkie/need"
	"selkie/scope"
	"selkie/tree"
)

// grower makes trees that are Right, and of which layer 8 says nothing wrong, their nodes anywhere, each of a line of its own.
type grower struct {
	r      *rand.Rand
	x      api.Tree
	size   int // as long as it is above 0, things get bigger
	broad  int // how many Kids of a sort there are at most
	labels int
	loops  []int // of the functions around: how many loops there are around in them
	many   []int // of the functions around: 1, if it takes many
}

func (g *grower) chance(n int) bool { return g.r.Intn(n) == 0 }

func (g *grower) put(n api.Node, kids ...int) int {
	n.Kids = kids
	g.x.Nodes = append(g.x.Nodes, n)
	return len(g.x.Nodes) - 1
}

func (g *grower) name() string { return string(rune('a' + g.r.Intn(5))) }

func (g *grower) names(least int) []string {
	var l []string
	for n := least + g.r.Intn(3); n > 0; n-- {
		l = append(l, g.name())
	}
	return l
}

// list is expressions, mostly few of them.
func (g *grower) list(least, deep int) []int {
	most := 3
	if g.chance(6) {
		most = g.broad
	}
	var l []int
	for n := least + g.r.Intn(most); n > 0; n-- {
		l = append(l, g.exp(deep))
	}
	return l
}

func (g *grower) two(deep int) []int { return []int{g.exp(deep), g.exp(deep)} }

func (g *grower) function(deep int) int {
	n := api.Node{Kind: api.EFunc, N: int64(g.r.Intn(2)), Names: g.names(0)}
	g.loops, g.many = append(g.loops, 0), append(g.many, int(n.N))
	block := g.block(deep + 1)
	g.loops, g.many = g.loops[:len(g.loops)-1], g.many[:len(g.many)-1]
	return g.put(n, block)
}

// leaf is an expression without Kids.
func (g *grower) leaf() int {
	l := []api.Node{{Kind: api.EName, S: g.name()}, {Kind: api.ENil}, {Kind: api.ETrue}, {Kind: api.EFalse}, {Kind: api.EInt, N: 3}, {Kind: api.EStr, S: "s"}, {Kind: api.EMany}}
	return g.put(l[g.r.Intn(len(l)-1+g.many[len(g.many)-1])])
}

func (g *grower) call(deep int) int {
	n := api.Node{Kind: api.ECall}
	if g.chance(2) {
		n = api.Node{Kind: api.EMethod, S: g.name()}
	}
	return g.put(n, g.list(1, deep)...)
}

func (g *grower) table(deep int) int {
	var l []int
	for _, item := range g.list(0, deep) {
		if g.chance(2) {
			l = append(l, g.put(api.Node{Kind: api.IPos}, item))
		} else {
			l = append(l, g.put(api.Node{Kind: api.IKey}, g.exp(deep), item))
		}
	}
	return g.put(api.Node{Kind: api.ETable}, l...)
}

func (g *grower) exp(deep int) int {
	g.size--
	deep++
	if g.size <= 0 || deep > 80 || g.chance(5) {
		return g.leaf()
	}
	switch g.r.Intn(10) {
	case 0, 1:
		return g.put(api.Node{Kind: api.EIndex}, g.two(deep)...)
	case 2, 3:
		return g.put(api.Node{Kind: api.EBinary, Op: api.Add + g.r.Intn(api.Or)}, g.two(deep)...)
	case 4:
		return g.put(api.Node{Kind: api.EUnary, Op: api.Neg + g.r.Intn(4)}, g.exp(deep))
	case 5:
		return g.put(api.Node{Kind: api.EParen}, g.exp(deep))
	case 6, 7:
		return g.call(deep)
	case 8:
		return g.table(deep)
	}
	return g.function(deep)
}

// targets is what an assignment sets.
func (g *grower) targets(deep int) []int {
	var l []int
	for n := 1 + g.r.Intn(4); n > 0; n-- {
		if g.chance(3) {
			l = append(l, g.put(api.Node{Kind: api.EName, S: g.name()}))
		} else {
			l = append(l, g.put(api.Node{Kind: api.EIndex}, g.two(deep+1)...))
		}
	}
	return l
}

func (g *grower) block(deep int) int {
	var l []int
	for g.size > 0 && deep < 70 && !g.chance(6) {
		l = append(l, g.statement(deep+1))
	}
	if g.chance(8) {
		g.labels++
		n := api.Node{Kind: api.SLabel, S: "l" + strconv.Itoa(g.labels)}
		l = slices.Insert(l, g.r.Intn(len(l)+1), g.put(n))
		n.Kind = api.SGoto
		l = append(l, g.put(n))
	}
	if g.chance(3) {
		l = append(l, g.put(api.Node{Kind: api.SReturn}, g.list(0, deep+1)...))
	}
	return g.put(api.Node{Kind: api.SBlock}, l...)
}

// body is a loop's block.
func (g *grower) body(deep int) int {
	g.loops[len(g.loops)-1]++
	block := g.block(deep)
	g.loops[len(g.loops)-1]--
	return block
}

func (g *grower) statement(deep int) int {
	g.size--
	deep++
	switch g.r.Intn(13) {
	case 0:
		return g.put(api.Node{Kind: api.SLocal, Names: g.names(1)}, g.list(0, deep)...)
	case 1, 2:
		targets := g.targets(deep)
		return g.put(api.Node{Kind: api.SAssign, N: int64(len(targets))}, append(targets, g.list(1, deep)...)...)
	case 3, 4:
		return g.put(api.Node{Kind: api.SCall}, g.call(deep))
	case 5:
		return g.put(api.Node{Kind: api.SDo}, g.block(deep))
	case 6:
		return g.put(api.Node{Kind: api.SWhile}, g.exp(deep), g.body(deep))
	case 7:
		return g.put(api.Node{Kind: api.SRepeat}, g.body(deep), g.exp(deep))
	case 8:
		l := []int{g.exp(deep), g.block(deep)}
		for g.chance(2) {
			l = append(l, g.exp(deep), g.block(deep))
		}
		if g.chance(2) {
			l = append(l, g.block(deep))
		}
		return g.put(api.Node{Kind: api.SIf}, l...)
	case 9:
		l := g.two(deep)
		if g.chance(2) {
			l = append(l, g.exp(deep))
		}
		return g.put(api.Node{Kind: api.SFor, Names: []string{g.name()}}, append(l, g.body(deep))...)
	case 10:
		l := g.list(1, deep)
		return g.put(api.Node{Kind: api.SEach, N: int64(len(l)), Names: g.names(1)}, append(l, g.body(deep))...)
	case 11:
		return g.put(api.Node{Kind: api.SFunc, Names: []string{g.name()}}, g.function(deep))
	}
	if g.loops[len(g.loops)-1] > 0 {
		return g.put(api.Node{Kind: api.SBreak})
	}
	return g.put(api.Node{Kind: api.SLabel, S: "m" + strconv.Itoa(len(g.x.Nodes))})
}

// grow makes a tree of about so many nodes, all of it.
func (g *grower) grow(size int) api.Tree {
	g.x, g.size, g.loops, g.many = api.Tree{}, size, []int{0}, []int{1}
	g.x.Root = g.block(0)
	return scatter(g.r, g.x)
}

// scatter is a tree whose nodes are put elsewhere; each gets a line of its own.
func scatter(r *rand.Rand, x api.Tree) api.Tree {
	to, lines := r.Perm(len(x.Nodes)), r.Perm(len(x.Nodes))
	y := api.Tree{Nodes: make([]api.Node, len(x.Nodes)), Root: to[x.Root]}
	for at, n := range x.Nodes {
		kids := make([]int, len(n.Kids))
		for i, k := range n.Kids {
			kids[i] = to[k]
		}
		n.Kids, n.Line = kids, lines[at]+1
		y.Nodes[to[at]] = n
	}
	return y
}

// P9.1: trees of all sorts.
func TestRandom(t *testing.T) {
	g := &grower{r: rand.New(rand.NewSource(91)), broad: 6}
	kinds := map[int]int{}
	for range 12000 {
		x := g.grow(1 + g.r.Intn(80))
		if _, is := check(t, x); is.err != api.OK && is.err != api.ErrRegs {
			t.Fatal("the grower made a tree that is wrong", is, short(x))
		}
		for _, n := range x.Nodes {
			kinds[n.Kind]++
		}
	}
	for k := api.ENil; k <= api.SLabel; k++ {
		if kinds[k] < 300 {
			t.Error("few of Kind", k, kinds)
		}
	}
}

// P9.1: great trees, of which some need too much.
func TestRandomGreat(t *testing.T) {
	g := &grower{r: rand.New(rand.NewSource(92)), broad: 400}
	all := map[api.Errno]int{}
	for range 600 {
		_, is := check(t, g.grow(300+g.r.Intn(1000)))
		all[is.err]++
	}
	if all[api.OK] < 100 || all[api.ErrRegs] < 80 {
		t.Error(all)
	}
}

// copied is a copy of a tree that shares nothing with it.
func copied(x api.Tree) api.Tree {
	y := api.Tree{Root: x.Root, Nodes: slices.Clone(x.Nodes)}
	for i := range y.Nodes {
		y.Nodes[i].Kids = slices.Clone(y.Nodes[i].Kids)
	}
	return y
}

// parents is who names a node.
func parents(x api.Tree) map[int]int {
	l := map[int]int{}
	for at, n := range x.Nodes {
		for _, k := range n.Kids {
			l[k] = at
		}
	}
	return l
}

// around is a tree with another node where one was, that names it behind these ones.
func around(x api.Tree, at int, n api.Node, ahead ...int) api.Tree {
	for p := range x.Nodes {
		for i, k := range x.Nodes[p].Kids {
			if k == at {
				x.Nodes[p].Kids[i] = len(x.Nodes)
			}
		}
	}
	n.Line, n.Kids = 1, append(ahead, at)
	x.Nodes = append(x.Nodes, n)
	return x
}

func isExpression(kind int) bool { return api.ENil <= kind && kind <= api.ETable }

// free says whether any expression may stand where this one does.
func free(x api.Tree, at int, up map[int]int) bool {
	p, ok := up[at]
	if !ok || !isExpression(x.Nodes[at].Kind) {
		return false
	}
	n := x.Nodes[p]
	return n.Kind != api.SCall && n.Kind != api.SFunc && !(n.Kind == api.SAssign && slices.Contains(n.Kids[:n.N], at))
}

// fits is trees of which all is right, what they need, and what layer 8 says of them.
func fits(t *testing.T, seed int64, rounds int, do func(r *rand.Rand, x api.Tree, l []int, s scope.Scope)) {
	t.Helper()
	g := &grower{r: rand.New(rand.NewSource(seed)), broad: 6}
	for range rounds {
		x := g.grow(1 + g.r.Intn(60))
		s, wrong := scope.Resolve(x)
		l, err := need.Need(x)
		if wrong == nil && err == nil && tree.Deep(x) < api.MaxDeep-2 {
			do(g.r, x, l, s)
		}
	}
}

// P9.2: a function's need is at least its locals'.
func TestAtLeastLocals(t *testing.T) {
	fits(t, 93, 3000, func(_ *rand.Rand, x api.Tree, l []int, s scope.Scope) {
		if len(l) != len(s.Fns) {
			t.Fatalf("%v, of %d functions: %s", l, len(s.Fns), short(x))
		}
		for fn, n := range l {
			if n < len(s.Fns[fn].Vars) || n > api.MaxRegs {
				t.Fatalf("function %d needs %d: %s", fn, n, short(x))
			}
		}
	})
}

// P9.2: brackets and do need nothing.
func TestBracketsAndDo(t *testing.T) {
	times := map[string]int{}
	same := func(what string, x api.Tree, l []int) {
		t.Helper()
		m, is := check(t, x)
		if is.err != api.OK || !slices.Equal(l, m) {
			t.Fatalf("%s: %v, %v, not %v: %s", what, m, is.err, l, short(x))
		}
		times[what]++
	}
	fits(t, 94, 4000, func(r *rand.Rand, x api.Tree, l []int, s scope.Scope) {
		up := parents(x)
		for range 5 {
			at := r.Intn(len(x.Nodes))
			n := x.Nodes[at]
			if free(x, at, up) {
				same("brackets", around(copied(x), at, api.Node{Kind: api.EParen}), l)
			}
			if n.Kind != api.SBlock || len(n.Kids) == 0 {
				continue
			}
			// Labels stay where the gotos are that see them.
			y := copied(x)
			inner, kids := len(y.Nodes), y.Nodes[at].Kids
			y.Nodes = append(y.Nodes, api.Node{Kind: api.SBlock, Line: 1, Kids: kids}, api.Node{Kind: api.SDo, Line: 1, Kids: []int{inner}})
			y.Nodes[at].Kids = []int{inner + 1}
			same("do", y, l)
			one := r.Intn(len(kids))
			if k := x.Nodes[kids[one]].Kind; k != api.SLabel && k != api.SReturn {
				z := copied(x)
				inner := len(z.Nodes)
				z.Nodes = append(z.Nodes, api.Node{Kind: api.SBlock, Line: 1, Kids: []int{kids[one]}}, api.Node{Kind: api.SDo, Line: 1, Kids: []int{inner}})
				z.Nodes[at].Kids[one] = inner + 1
				same("do of one", z, l)
			}
		}
	})
	if times["brackets"] < 3000 || times["do"] < 1000 || times["do of one"] < 1000 {
		t.Error(times)
	}
}

// P9.2: one more argument, or one more nested call, needs one more place at most, in its own function alone.
func TestOneMore(t *testing.T) {
	times := map[string]int{}
	more := func(what string, x api.Tree, fn int, l []int) {
		t.Helper()
		m, is := check(t, x)
		if is.err != api.OK && !(is.err == api.ErrRegs && l[fn] == api.MaxRegs) {
			t.Fatalf("%s: %v: %s", what, is.err, short(x))
		}
		for i := range m {
			if m[i] != l[i] && !(i == fn && m[i] == l[i]+1) {
				t.Fatalf("%s in %d: %v, not %v: %s", what, fn, m, l, short(x))
			}
			times[what] += m[i] - l[i]
		}
	}
	fits(t, 95, 4000, func(r *rand.Rand, x api.Tree, l []int, s scope.Scope) {
		up := parents(x)
		for range 5 {
			at := r.Intn(len(x.Nodes))
			n := x.Nodes[at]
			if n.Kind == api.ECall || n.Kind == api.EMethod {
				y := copied(x)
				k := 1 + r.Intn(len(n.Kids))
				y.Nodes[at].Kids = slices.Insert(y.Nodes[at].Kids, k, len(y.Nodes))
				y.Nodes = append(y.Nodes, api.Node{Kind: api.EInt, Line: 1, N: 5})
				more("an argument", y, s.Of[at], l)
			}
			if free(x, at, up) {
				y := copied(x)
				y.Nodes = append(y.Nodes, api.Node{Kind: api.EName, Line: 1, S: "x"})
				more("a call", around(y, at, api.Node{Kind: api.ECall}, len(x.Nodes)), s.Of[at], l)
				more("a call of it", around(copied(x), at, api.Node{Kind: api.ECall}), s.Of[at], l)
			}
		}
	})
	if times["an argument"] < 100 || times["a call"] < 100 || times["a call of it"] != 0 {
		t.Error(times)
	}
}

// P3: calls end without a panic, whatever they are given.
func TestWrongTrees(t *testing.T) {
	r := rand.New(rand.NewSource(96))
	names := []string{"", "a", "end", "1", "b"}
	for range 30000 {
		n := r.Intn(7)
		x := api.Tree{Root: r.Intn(n+3) - 1}
		for range n {
			node := api.Node{Kind: r.Intn(40) - 3, Line: r.Intn(4) - 1, Op: r.Intn(30) - 3, N: int64(r.Uint64()) >> r.Intn(64), S: names[r.Intn(5)]}
			for range r.Intn(3) {
				node.Names = append(node.Names, names[r.Intn(5)])
			}
			for range r.Intn(3) {
				node.Kids = append(node.Kids, r.Intn(n+2)-1)
			}
			x.Nodes = append(x.Nodes, node)
		}
		check(t, x)
	}
	// Trees that were right, but for one thing.
	g := &grower{r: r, broad: 6}
	for range 20000 {
		x := g.grow(1 + r.Intn(30))
		n := &x.Nodes[r.Intn(len(x.Nodes))]
		switch r.Intn(6) {
		case 0:
			n.Kind = r.Intn(36) - 1
		case 1:
			n.Line = -r.Intn(2)
		case 2:
			n.N = int64(r.Intn(5) - 1)
		case 3:
			n.S = names[r.Intn(5)]
		case 4:
			n.Names = append(n.Names, names[r.Intn(5)])
		case 5:
			n.Kids = append(n.Kids, r.Intn(len(x.Nodes)+2)-1)
		}
		check(t, x)
	}
}
