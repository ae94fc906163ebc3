package scope_test

import (
	"errors"
	"fmt"
	"slices"
	"testing"

	"selkie/api"
	"selkie/scope"
	"selkie/tree"
)

// The chapter's words once more, otherwise than in the package: no stacks, but of each node when it is met and what it hangs on.

// oracle is a tree with what is asked of it.
type oracle struct {
	x        api.Tree
	parent   []int
	met      []int // when a node is met
	declared []int // when its Names are declared
	order    []int // the nodes as they are met
	made     []int // those that declare, as they do
	faults   []fault
}

// fault is an error, and when it is met.
type fault struct {
	at, line int
	err      api.Errno
}

// steps: of each Kind that declares, what is done to its Kids: d stands for the Names, k for a Kid, * for all ahead of the last.
func steps(kind int) string {
	switch kind {
	case api.SLocal:
		return "*kd"
	case api.SFunc, api.EFunc:
		return "dk"
	case api.SFor, api.SEach:
		return "*dk"
	}
	return "*k"
}

func newOracle(x api.Tree) *oracle {
	n := len(x.Nodes)
	o := &oracle{x: x, parent: make([]int, n), met: make([]int, n), declared: make([]int, n)}
	now := 0
	var meet func(at, from int)
	meet = func(at, from int) {
		now++
		o.parent[at], o.met[at] = from, now
		o.order = append(o.order, at)
		kids := x.Nodes[at].Kids
		for _, c := range steps(x.Nodes[at].Kind) {
			switch {
			case c == 'd':
				now++
				o.declared[at] = now
				o.made = append(o.made, at)
			case c == '*':
				for _, k := range kids[:max(0, len(kids)-1)] {
					meet(k, at)
				}
			case len(kids) > 0:
				meet(kids[len(kids)-1], at)
			}
		}
	}
	meet(x.Root, -1)
	return o
}

func (o *oracle) node(at int) api.Node { return o.x.Nodes[at] }

func (o *oracle) kind(at int) int { return o.x.Nodes[at].Kind }

// under: is a node another one, or does it hang on it?
func (o *oracle) under(at, top int) bool {
	for at != -1 && at != top {
		at = o.parent[at]
	}
	return at == top
}

// function is the node of the function that a node stands in.
func (o *oracle) function(at int) int {
	for at = o.parent[at]; at != -1; at = o.parent[at] {
		if o.kind(at) == api.EFunc {
			return at
		}
	}
	return o.x.Root
}

// owner is the function whose locals a node declares.
func (o *oracle) owner(at int) int {
	if o.kind(at) == api.EFunc {
		return at
	}
	return o.function(at)
}

// region is the node under which stands all that a declaration may hold in.
func (o *oracle) region(at int) int {
	if k := o.kind(at); k != api.SLocal && k != api.SFunc {
		kids := o.node(at).Kids
		return kids[len(kids)-1]
	}
	block := o.parent[at]
	if up := o.parent[block]; up != -1 && o.kind(up) == api.SRepeat {
		return up
	}
	return block
}

// variable is a local: the node that declares it, and which of its Names it is.
type variable struct{ node, name int }

// meant is the last one that was declared of those that hold where a name stands; a node of -1: there is none.
func (o *oracle) meant(at int) variable {
	best := variable{-1, 0}
	for _, d := range o.made {
		if o.declared[d] > o.met[at] || !o.under(at, o.region(d)) {
			continue
		}
		for i, s := range o.node(d).Names {
			if s == o.node(at).S {
				best = variable{d, i}
			}
		}
	}
	return best
}

// blocks: the blocks around a node in its function, from the inner ones on, and which statement of each it is or stands in.
func (o *oracle) blocks(at int) (blocks, statements []int) {
	for up := o.parent[at]; up != -1 && o.kind(at) != api.EFunc; at, up = up, o.parent[up] {
		if o.kind(up) == api.SBlock {
			blocks = append(blocks, up)
			statements = append(statements, at)
		}
	}
	return blocks, statements
}

// label is the node of a block's first label of that name, or -1.
func (o *oracle) label(block int, name string) int {
	for _, k := range o.node(block).Kids {
		if o.kind(k) == api.SLabel && o.node(k).S == name {
			return k
		}
	}
	return -1
}

func (o *oracle) wrong(at, node int, err api.Errno) {
	o.faults = append(o.faults, fault{at, o.node(node).Line, err})
}

// twice: the first label of a block that is there already.
func (o *oracle) twice(block int) {
	around, _ := o.blocks(block)
	for _, k := range o.node(block).Kids {
		if o.kind(k) != api.SLabel {
			continue
		}
		again := o.label(block, o.node(k).S) != k
		for _, b := range around {
			again = again || o.label(b, o.node(k).S) != -1
		}
		if again {
			o.wrong(o.met[block], k, api.ErrLabel)
			return
		}
	}
}

// loop is where a break leads.
func (o *oracle) loop(at int) scope.Use {
	for up := o.parent[at]; up != -1 && o.kind(up) != api.EFunc; up = o.parent[up] {
		if slices.Contains([]int{api.SWhile, api.SRepeat, api.SFor, api.SEach}, o.kind(up)) {
			return scope.Use{Kind: scope.To, Index: up}
		}
	}
	o.wrong(o.met[at], at, api.ErrGoto)
	return scope.Use{}
}

// jump is where a goto leads.
func (o *oracle) jump(at int) scope.Use {
	blocks, statements := o.blocks(at)
	for i, b := range blocks {
		to := o.label(b, o.node(at).S)
		if to == -1 {
			continue
		}
		if o.into(b, statements[i], to) {
			o.wrong(o.met[at], at, api.ErrJump)
		}
		return scope.Use{Kind: scope.To, Index: to}
	}
	o.wrong(o.met[at], at, api.ErrGoto)
	return scope.Use{}
}

// into: does a jump from a statement of a block to a label of it lead to where a local holds that didn't hold ahead?
func (o *oracle) into(block, from, to int) bool {
	kids := o.node(block).Kids
	f, l := slices.Index(kids, from), slices.Index(kids, to)
	if f > l {
		return false
	}
	isLocal := func(k int) bool { return o.kind(k) == api.SLocal || o.kind(k) == api.SFunc }
	isOther := func(k int) bool { return o.kind(k) != api.SLabel }
	ends := !slices.ContainsFunc(kids[l:], isOther)
	up := o.parent[block]
	return slices.ContainsFunc(kids[f+1:l], isLocal) && !(ends && (up == -1 || o.kind(up) != api.SRepeat))
}

// resolve is what the chapter says of the tree, and what is wrong of it, as it is met.
func (o *oracle) resolve() (scope.Scope, fault) {
	s := scope.Scope{Uses: make([]scope.Use, len(o.x.Nodes)), Of: make([]int, len(o.x.Nodes))}
	number := map[int]int{o.x.Root: 0}
	s.Fns = []scope.Fn{{Node: o.x.Root, Parent: -1, Many: true}}
	for _, at := range o.order {
		if n := o.node(at); n.Kind == api.EFunc {
			number[at] = len(s.Fns)
			s.Fns = append(s.Fns, scope.Fn{Node: at, Parent: number[o.function(at)], Params: len(n.Names), Many: n.N == 1})
		}
		s.Of[at] = number[o.function(at)]
	}
	locals := map[variable]int{}
	for _, d := range o.made {
		fn := &s.Fns[number[o.owner(d)]]
		s.Uses[d] = scope.Use{Kind: scope.Local, Index: len(fn.Vars)}
		for i, name := range o.node(d).Names {
			locals[variable{d, i}] = len(fn.Vars)
			fn.Vars = append(fn.Vars, scope.Var{Name: name, Node: d})
		}
		if len(fn.Vars) > 200 {
			o.wrong(o.declared[d], d, api.ErrLocals)
		}
	}
	ups := make([][]variable, len(s.Fns))
	for _, at := range o.order {
		switch o.kind(at) {
		case api.SBlock:
			o.twice(at)
		case api.EMany:
			if !s.Fns[s.Of[at]].Many {
				o.wrong(o.met[at], at, api.ErrVararg)
			}
		case api.SBreak:
			s.Uses[at] = o.loop(at)
		case api.SGoto:
			s.Uses[at] = o.jump(at)
		case api.EName:
			s.Uses[at] = o.name(at, &s, number, locals, ups)
		}
	}
	first := fault{}
	for _, f := range o.faults {
		if first.err == api.OK || f.at < first.at {
			first = f
		}
	}
	return s, first
}

// name is what a name means; ups: of each function the locals that its upvalues are.
func (o *oracle) name(at int, s *scope.Scope, number map[int]int, locals map[variable]int, ups [][]variable) scope.Use {
	v := o.meant(at)
	if v.node == -1 {
		return scope.Use{Kind: scope.Global}
	}
	owner := number[o.owner(v.node)]
	var between []int // the functions that need it, the outer ones first
	for fn := s.Of[at]; fn != owner; fn = s.Fns[fn].Parent {
		between = slices.Insert(between, 0, fn)
	}
	use := scope.Use{Kind: scope.Local, Index: locals[v]}
	for _, fn := range between {
		if !slices.Contains(ups[fn], v) {
			ups[fn] = append(ups[fn], v)
			s.Fns[fn].Ups = append(s.Fns[fn].Ups, scope.Upvalue{Local: use.Kind == scope.Local, Index: use.Index})
		}
		if len(ups[fn]) > 60 {
			o.wrong(o.met[at], at, api.ErrUps)
		}
		use = scope.Use{Kind: scope.Up, Index: slices.Index(ups[fn], v)}
		s.Fns[owner].Vars[locals[v]].Captured = true
	}
	return use
}

// sure is an error's line and Errno, or zero; it must be wrapped as it should be, and nothing must stand beside it.
func sure(t *testing.T, s scope.Scope, err error) fault {
	t.Helper()
	if err == nil {
		return fault{}
	}
	if len(s.Fns) != 0 || len(s.Uses) != 0 || len(s.Of) != 0 {
		t.Fatalf("a scope beside %v", err)
	}
	var f *api.Fault
	var no api.Errno
	if !errors.As(err, &f) || !errors.As(err, &no) || f.Err != error(no) || !errors.Is(err, no) {
		t.Fatalf("%v is no fault that unwraps to an Errno", err)
	}
	return fault{line: f.Line, err: no}
}

// check holds Resolve against the words above, and is what is wrong of the tree.
func check(t *testing.T, x api.Tree) fault {
	t.Helper()
	s, err := scope.Resolve(x)
	is := sure(t, s, err)
	if !tree.Right(x) {
		if is != (fault{line: 0, err: api.ErrForm}) {
			t.Fatalf("%v, of a tree that isn't Right: %s", is, short(x))
		}
		return is
	}
	want, wrong := newOracle(x).resolve()
	wrong.at = 0
	if is != wrong {
		t.Fatalf("line %d, %v; want line %d, %v: %s", is.line, is.err, wrong.line, wrong.err, tree.Print(x))
	}
	if wrong.err == api.OK && whole(s) != whole(want) {
		t.Fatalf("%s\n%s\n%s", tree.Print(x), whole(s), whole(want))
	}
	return is
}

// whole is all of a scope as text; nil and empty lists are one in it.
func whole(s scope.Scope) string { return fmt.Sprint(s) }

func short(x api.Tree) string {
	s := fmt.Sprintf("%+v", x)
	return s[:min(len(s), 600)]
}
