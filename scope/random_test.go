package scope_test

import (
	"math/rand"
	"strconv"
	"testing"

	"selkie/api"
	"selkie/scope"
	"selkie/tree"
)

// grower makes trees that are Right, their nodes anywhere, each of a line of its own.
type grower struct {
	r      *rand.Rand
	x      api.Tree
	size   int // as long as it is above 0, things get bigger
	names  []string
	labels []string
	kinds  []int // of statements: how often each comes, that often it stands here
	many   int   // of so many functions one takes many
	room   []int // the functions around, from the outer ones on: 1, if it takes many
}

func (g *grower) chance(n int) bool { return g.r.Intn(n) == 0 }

func (g *grower) pick(l []string) string { return l[g.r.Intn(len(l))] }

func (g *grower) put(n api.Node, kids ...int) int {
	n.Kids = kids
	g.x.Nodes = append(g.x.Nodes, n)
	return len(g.x.Nodes) - 1
}

func (g *grower) some(most int) []string {
	l := []string{g.pick(g.names)}
	for len(l) < most && g.chance(2) {
		l = append(l, g.pick(g.names))
	}
	return l
}

func (g *grower) list(least, most, deep int) []int {
	var l []int
	for n := least + g.r.Intn(most-least+1); n > 0; n-- {
		l = append(l, g.exp(deep))
	}
	return l
}

func (g *grower) function(deep int) int {
	n := api.Node{Kind: api.EFunc}
	if g.chance(3) {
		n.Names = g.some(3)
	}
	if g.chance(g.many) {
		n.N = 1
	}
	g.room = append(g.room, int(n.N))
	block := g.block(deep + 1)
	g.room = g.room[:len(g.room)-1]
	return g.put(n, block)
}

func (g *grower) exp(deep int) int {
	g.size--
	if g.size <= 0 || deep > 30 {
		return g.put(api.Node{Kind: api.EName, S: g.pick(g.names)})
	}
	switch g.r.Intn(14) {
	case 0, 1, 2:
		return g.function(deep)
	case 3:
		// Mostly where it may be, so that it isn't all that goes wrong.
		if g.room[len(g.room)-1] == 1 || g.chance(20) {
			return g.put(api.Node{Kind: api.EMany})
		}
	case 4:
		return g.put(api.Node{Kind: api.EBinary, Op: api.Add}, g.list(2, 2, deep+1)...)
	case 5:
		return g.put(api.Node{Kind: api.EParen}, g.exp(deep+1))
	case 6:
		return g.put(api.Node{Kind: api.ETable}, g.put(api.Node{Kind: api.IKey}, g.list(2, 2, deep+1)...), g.put(api.Node{Kind: api.IPos}, g.exp(deep+1)))
	case 7:
		return g.put(api.Node{Kind: api.EMethod, S: g.pick(g.names)}, g.list(1, 3, deep+1)...)
	case 8:
		return g.put(api.Node{Kind: api.EIndex}, g.list(2, 2, deep+1)...)
	case 9:
		return g.put(api.Node{Kind: api.EStr, S: g.pick(g.names)})
	}
	return g.put(api.Node{Kind: api.EName, S: g.pick(g.names)})
}

func (g *grower) block(deep int) int {
	var l []int
	for g.size > 0 && deep < 30 && !g.chance(5) {
		l = append(l, g.statement(deep+1))
	}
	// Labels at the end, where it matters that nothing stands behind them.
	for g.chance(4) && len(g.labels) > 0 {
		l = append(l, g.put(api.Node{Kind: api.SLabel, S: g.pick(g.labels)}))
	}
	if g.chance(4) {
		l = append(l, g.put(api.Node{Kind: api.SReturn}, g.list(0, 2, deep+1)...))
	}
	return g.put(api.Node{Kind: api.SBlock}, l...)
}

func (g *grower) statement(deep int) int {
	g.size--
	n := api.Node{Kind: g.kinds[g.r.Intn(len(g.kinds))]}
	var kids []int
	switch n.Kind {
	case api.SLocal:
		n.Names, kids = g.some(3), g.list(0, 2, deep)
	case api.SFunc:
		n.Names, kids = g.some(1), []int{g.function(deep)}
	case api.SAssign:
		n.N, kids = 1, append([]int{g.put(api.Node{Kind: api.EName, S: g.pick(g.names)})}, g.list(1, 2, deep)...)
	case api.SCall:
		kids = []int{g.put(api.Node{Kind: api.ECall}, g.list(1, 3, deep+1)...)}
	case api.SDo:
		kids = []int{g.block(deep)}
	case api.SWhile:
		kids = []int{g.exp(deep), g.block(deep)}
	case api.SRepeat:
		kids = []int{g.block(deep), g.exp(deep)}
	case api.SIf:
		kids = []int{g.exp(deep), g.block(deep), g.exp(deep), g.block(deep), g.block(deep)}
	case api.SFor:
		n.Names, kids = g.some(1), append(g.list(2, 3, deep), g.block(deep))
	case api.SEach:
		kids = g.list(1, 3, deep)
		n.N, n.Names = int64(len(kids)), g.some(3)
		kids = append(kids, g.block(deep))
	case api.SGoto, api.SLabel:
		n.S = g.pick(g.labels)
	}
	return g.put(n, kids...)
}

// grow makes a tree, all of it.
func (g *grower) grow() api.Tree {
	g.x, g.room = api.Tree{}, []int{1}
	g.x.Root = g.block(0)
	return scatter(g.r, g.x)
}

// scatter is a tree whose nodes are put elsewhere; each gets a line of its own.
func scatter(r *rand.Rand, x api.Tree) api.Tree {
	to, lines := r.Perm(len(x.Nodes)), r.Perm(len(x.Nodes))
	y := api.Tree{Nodes: make([]api.Node, len(x.Nodes)), Root: to[x.Root]}
	for at, n := range x.Nodes {
		kids := make([]int, len(n.Kids))
		for i, k := range n.Kids {
			kids[i] = to[k]
		}
		n.Kids, n.Line = kids, lines[at]+1
		y.Nodes[to[at]] = n
	}
	return y
}

func times(kinds map[int]int) []int {
	var l []int
	for kind := range api.SLabel + 1 {
		for range kinds[kind] {
			l = append(l, kind)
		}
	}
	return l
}

var (
	declaring = map[int]int{api.SLocal: 4, api.SFunc: 2, api.SAssign: 2, api.SCall: 3, api.SDo: 2, api.SWhile: 1, api.SRepeat: 2, api.SIf: 1, api.SFor: 2, api.SEach: 2}
	jumping   = map[int]int{api.SLocal: 2, api.SFunc: 1, api.SCall: 1, api.SDo: 3, api.SWhile: 1, api.SRepeat: 2, api.SIf: 1, api.SFor: 1, api.SEach: 1, api.SBreak: 1, api.SGoto: 4, api.SLabel: 4}
)

// settle makes most labels of a tree unlike each other, and most jumps lead somewhere, so that more goes right.
func settle(r *rand.Rand, x api.Tree) {
	for i := range x.Nodes {
		if n := &x.Nodes[i]; n.Kind == api.SLabel && r.Intn(5) > 0 {
			n.S = "l" + strconv.Itoa(i)
		}
	}
	o := newOracle(x)
	for i := range x.Nodes {
		n := &x.Nodes[i]
		if n.Kind == api.SBreak && r.Intn(10) > 0 && o.loop(i) == (scope.Use{}) {
			n.Kind, n.S = api.SLabel, "b"+strconv.Itoa(i)
		}
		if n.Kind != api.SGoto || r.Intn(25) == 0 {
			continue
		}
		var seen []string
		blocks, _ := o.blocks(i)
		for _, b := range blocks {
			for _, k := range x.Nodes[b].Kids {
				if x.Nodes[k].Kind == api.SLabel {
					seen = append(seen, x.Nodes[k].S)
				}
			}
		}
		if len(seen) > 0 {
			n.S = seen[r.Intn(len(seen))]
		} else {
			n.Kind, n.S = api.SLabel, "g"+strconv.Itoa(i)
		}
	}
}

// seen holds many trees against the oracle, and is how often which errors there were.
func seen(t *testing.T, g *grower, rounds, size int) map[api.Errno]int {
	t.Helper()
	all := map[api.Errno]int{}
	for range rounds {
		g.size = 1 + g.r.Intn(size)
		x := g.grow()
		settle(g.r, x)
		if !tree.Right(x) {
			t.Fatal("the grower made a tree that isn't Right", short(x))
		}
		all[check(t, x).err]++
	}
	return all
}

// P8.1, P8.2: trees full of declarations and of functions.
func TestRandomNames(t *testing.T) {
	g := &grower{r: rand.New(rand.NewSource(81)), names: []string{"a", "b", "c"}, kinds: times(declaring), many: 2}
	all := seen(t, g, 15000, 120)
	if all[api.OK] < 5000 || all[api.ErrVararg] < 500 {
		t.Error(all)
	}
}

// P8.1: trees full of jumps.
func TestRandomJumps(t *testing.T) {
	g := &grower{r: rand.New(rand.NewSource(82)), names: []string{"a", "b"}, labels: []string{"l", "m", "n", "o"}, kinds: times(jumping), many: 2}
	all := map[api.Errno]int{}
	for _, size := range []int{6, 12, 25, 60} {
		for err, n := range seen(t, g, 15000, size) {
			all[err] += n
		}
	}
	if all[api.OK] < 20000 || all[api.ErrGoto] < 500 || all[api.ErrLabel] < 500 || all[api.ErrJump] < 500 || all[api.ErrVararg] < 50 {
		t.Error(all)
	}
}

// P8.1, P8.2: great trees, in which there are as many locals and upvalues as may be, and more.
func TestRandomLimits(t *testing.T) {
	g := &grower{r: rand.New(rand.NewSource(83)), kinds: times(declaring), many: 1}
	var names []string
	for i := range 150 {
		names = append(names, "x"+strconv.Itoa(i))
	}
	all := map[api.Errno]int{}
	for i := range 150 {
		g.x, g.room = api.Tree{}, []int{1}
		var l []int
		// Many names with many uses, or few ones with many locals.
		g.names, g.size = names, 400+g.r.Intn(1600)
		locals := g.r.Intn(150)
		if i%2 == 0 {
			g.names, g.size = names[:5], 400
			locals = 180 + g.r.Intn(20)
		}
		for range locals {
			l = append(l, g.put(api.Node{Kind: api.SLocal, Names: g.some(1)}))
		}
		for g.size > 0 {
			l = append(l, g.statement(1))
		}
		g.x.Root = g.put(api.Node{Kind: api.SBlock}, l...)
		all[check(t, scatter(g.r, g.x)).err]++
	}
	if all[api.OK] < 10 || all[api.ErrLocals] < 10 || all[api.ErrUps] < 10 {
		t.Error(all)
	}
}

// P8.2, as the chapter tells it: asked of the answer alone.
func TestSo(t *testing.T) {
	g := &grower{r: rand.New(rand.NewSource(84)), names: []string{"a", "b", "c", "d"}, kinds: times(declaring), many: 1}
	for range 3000 {
		g.size = 1 + g.r.Intn(150)
		x := g.grow()
		s, err := scope.Resolve(x)
		if err != nil {
			t.Fatal(err, short(x))
		}
		captured := map[[2]int]int{}
		for at, n := range x.Nodes {
			fn, use := s.Of[at], s.Uses[at]
			if n.Kind != api.EName || use.Kind == scope.Global {
				continue
			}
			for use.Kind == scope.Up {
				up := s.Fns[fn].Ups[use.Index]
				fn, use = s.Fns[fn].Parent, scope.Use{Kind: scope.Up, Index: up.Index}
				if up.Local {
					use.Kind = scope.Local
					captured[[2]int{fn, up.Index}]++
				}
			}
			if v := s.Fns[fn].Vars[use.Index]; v.Name != n.S {
				t.Fatalf("%s is %s: %s", n.S, v.Name, tree.Print(x))
			}
		}
		for fn, f := range s.Fns {
			for i, v := range f.Vars {
				if v.Captured != (captured[[2]int{fn, i}] > 0) {
					t.Fatalf("%s of %d: %v: %s", v.Name, fn, v.Captured, tree.Print(x))
				}
			}
		}
	}
}

// P8.2: names, each of them in a scope of its own, are locals; written behind its end they are globals.
func TestScopesOfTheirOwn(t *testing.T) {
	r := rand.New(rand.NewSource(85))
	for range 500 {
		g := &grower{r: r, x: api.Tree{}}
		var l, within, behind []int
		for range 1 + r.Intn(20) {
			name := string(rune('a' + r.Intn(26)))
			use := func() int {
				at := g.put(api.Node{Kind: api.EName, S: name})
				l = append(l, g.put(api.Node{Kind: api.SReturn}, at))
				return at
			}
			within = append(within, use())
			own := g.put(api.Node{Kind: api.SBlock}, g.put(api.Node{Kind: api.SLocal, Names: []string{name}}), l[len(l)-1])
			l[len(l)-1] = g.put(api.Node{Kind: api.SDo}, own)
			behind = append(behind, use())
			l[len(l)-1] = g.put(api.Node{Kind: api.SDo}, g.put(api.Node{Kind: api.SBlock}, l[len(l)-1]))
		}
		g.x.Root = g.put(api.Node{Kind: api.SBlock}, l...)
		for i := range g.x.Nodes {
			g.x.Nodes[i].Line = 1
		}
		s, err := scope.Resolve(g.x)
		if err != nil {
			t.Fatal(err)
		}
		for i := range within {
			if s.Uses[within[i]] != (scope.Use{Kind: scope.Local, Index: i}) || s.Uses[behind[i]] != (scope.Use{Kind: scope.Global}) || s.Fns[0].Vars[i].Captured {
				t.Fatal(i, s)
			}
		}
		check(t, g.x)
	}
}

// P3: calls end without a panic, whatever they are given.
func TestWrongTrees(t *testing.T) {
	r := rand.New(rand.NewSource(86))
	names := []string{"", "a", "end", "1", "b"}
	for range 30000 {
		n := r.Intn(7)
		x := api.Tree{Root: r.Intn(n+3) - 1}
		for range n {
			node := api.Node{Kind: r.Intn(40) - 3, Line: r.Intn(4) - 1, Op: r.Intn(30) - 3, N: int64(r.Uint64()) >> r.Intn(64), S: names[r.Intn(5)]}
			for range r.Intn(3) {
				node.Names = append(node.Names, names[r.Intn(5)])
			}
			for range r.Intn(3) {
				node.Kids = append(node.Kids, r.Intn(n+2)-1)
			}
			x.Nodes = append(x.Nodes, node)
		}
		check(t, x)
	}
	// Trees that were Right, but for one thing.
	g := &grower{r: r, names: []string{"a", "b"}, labels: []string{"l", "m"}, kinds: times(jumping), many: 2}
	for range 20000 {
		g.size = 1 + r.Intn(30)
		x := g.grow()
		n := &x.Nodes[r.Intn(len(x.Nodes))]
		switch r.Intn(6) {
		case 0:
			n.Kind = r.Intn(36) - 1
		case 1:
			n.Line = -r.Intn(2)
		case 2:
			n.N = int64(r.Intn(5) - 1)
		case 3:
			n.S = names[r.Intn(5)]
		case 4:
			n.Names = append(n.Names, names[r.Intn(5)])
		case 5:
			n.Kids = append(n.Kids, r.Intn(len(x.Nodes)+2)-1)
		}
		check(t, x)
	}
}
