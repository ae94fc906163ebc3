package need_test

import (
	"errors"
	"fmt"
	"slices"
	"testing"

	"selkie/api"
	"selkie/need"
	"selkie/scope"
	"selkie/tree"
)

// The chapter's words once more, from the root down: of each node how many places are held when it is met.

// demand is so many places, and behind them what a Kid needs; a Kid of -1: there is none.
type demand struct{ held, kid int }

// behind: for each of these Kids, of the number i, so many places, i and what it needs.
func behind(held int, kids []int) []demand {
	var l []demand
	for i, k := range kids {
		l = append(l, demand{held + i, k})
	}
	return l
}

// each: what each of these Kids needs, behind so many places.
func each(held int, kids []int) []demand {
	var l []demand
	for _, k := range kids {
		l = append(l, demand{held, k})
	}
	return l
}

// demands is the chapter's list: what a node needs.
func demands(x api.Tree, n api.Node) []demand {
	number := func(k int) demand { return demand{k, -1} }
	k := n.Kids
	switch n.Kind {
	case api.ENil, api.ETrue, api.EFalse, api.EInt, api.EStr, api.EMany, api.EName, api.EFunc, api.SFunc:
		return []demand{number(1)}
	case api.EIndex:
		return []demand{{0, k[0]}, {1, k[1]}}
	case api.EBinary:
		return []demand{{0, k[0]}, {map[bool]int{false: 1}[n.Op == api.And || n.Op == api.Or], k[1]}}
	case api.EUnary, api.EParen, api.SCall, api.SDo:
		return []demand{{0, k[0]}}
	case api.ECall:
		return append(behind(1, k[1:]), demand{0, k[0]})
	case api.EMethod:
		return append(behind(2, k[1:]), number(2), demand{0, k[0]})
	case api.ETable:
		l := []demand{number(1)}
		for _, item := range k {
			if x.Nodes[item].Kind == api.IPos {
				l = append(l, demand{1, x.Nodes[item].Kids[0]})
			} else {
				l = append(l, demand{1, x.Nodes[item].Kids[0]}, demand{2, x.Nodes[item].Kids[1]})
			}
		}
		return l
	case api.SLocal, api.SReturn:
		return behind(0, k)
	case api.SAssign:
		var l []demand
		p := 0
		for _, target := range k[:n.N] {
			if parts := x.Nodes[target].Kids; x.Nodes[target].Kind == api.EIndex {
				l = append(l, demand{p, parts[0]}, demand{p + 1, parts[1]})
				p += 2
			}
		}
		return append(l, behind(p, k[n.N:])...)
	case api.SWhile, api.SRepeat, api.SIf, api.SBlock:
		return each(0, k)
	case api.SFor:
		return append(behind(0, k[:len(k)-1]), demand{3, k[len(k)-1]})
	case api.SEach:
		return append(behind(0, k[:n.N]), number(6), demand{3, k[n.N]})
	}
	return nil
}

// oracle is a tree that is Right, and what is found out of it.
type oracle struct {
	x      api.Tree
	nodes  []int // of each function its node
	locals []int // of each function how many locals it has
	most   []int // of each function how many places are held at most, beside them
}

// enter is the number of a function that is met.
func (o *oracle) enter(node, locals int) int {
	o.nodes, o.locals, o.most = append(o.nodes, node), append(o.locals, locals), append(o.most, 0)
	return len(o.nodes) - 1
}

// number gives the functions their numbers, as they are met, and counts their locals.
func (o *oracle) number(at, fn int) {
	n := o.x.Nodes[at]
	switch n.Kind {
	case api.EFunc:
		fn = o.enter(at, len(n.Names))
	case api.SLocal, api.SFor, api.SEach, api.SFunc:
		o.locals[fn] += len(n.Names)
	}
	for _, kid := range n.Kids {
		o.number(kid, fn)
	}
}

// hold goes down from a node that is met when so many places are held.
func (o *oracle) hold(at, fn, held int) {
	o.most[fn] = max(o.most[fn], held)
	for _, d := range demands(o.x, o.x.Nodes[at]) {
		if d.kid == -1 {
			o.most[fn] = max(o.most[fn], held+d.held)
		} else {
			o.hold(d.kid, fn, held+d.held)
		}
	}
}

func newOracle(x api.Tree) *oracle {
	o := &oracle{x: x}
	o.number(x.Root, o.enter(x.Root, 0))
	for fn, at := range o.nodes {
		block := at
		if x.Nodes[at].Kind == api.EFunc {
			block = x.Nodes[at].Kids[0]
		}
		o.hold(block, fn, 0)
	}
	return o
}

// answer is what each function needs, whether or not that is too much.
func (o *oracle) answer() []int {
	l := slices.Clone(o.locals)
	for fn, most := range o.most {
		l[fn] += most
	}
	return l
}

// fault is an error and its line.
type fault struct {
	line int
	err  api.Errno
}

// sure is what an error is; it must be wrapped as it should be, and nothing must stand beside it.
func sure(t *testing.T, l []int, err error) fault {
	t.Helper()
	if err == nil {
		return fault{}
	}
	if l != nil {
		t.Fatalf("%v beside %v", l, err)
	}
	var f *api.Fault
	var no api.Errno
	if !errors.As(err, &f) || !errors.As(err, &no) || f.Err != error(no) || !errors.Is(err, no) {
		t.Fatalf("%v is no fault that unwraps to an Errno", err)
	}
	return fault{line: f.Line, err: no}
}

// wanted is what the words above say of a tree: what its functions need, or what is wrong of it.
func wanted(t *testing.T, x api.Tree) ([]int, fault) {
	t.Helper()
	if !tree.Right(x) {
		return nil, fault{err: api.ErrForm}
	}
	s, err := scope.Resolve(x)
	if err != nil {
		var l []int
		return nil, sure(t, l, err)
	}
	o := newOracle(x)
	l := o.answer()
	for fn, n := range l {
		if len(s.Fns[fn].Vars) != o.locals[fn] || s.Fns[fn].Node != o.nodes[fn] {
			t.Fatalf("function %d is another one: %s", fn, tree.Print(x))
		}
		if n > 250 {
			return nil, fault{line: x.Nodes[o.nodes[fn]].Line, err: api.ErrRegs}
		}
	}
	return l, fault{}
}

// check holds Need against the words above, and is what it says.
func check(t *testing.T, x api.Tree) ([]int, fault) {
	t.Helper()
	l, err := need.Need(x)
	is := sure(t, l, err)
	want, wrong := wanted(t, x)
	if is != wrong || !slices.Equal(l, want) {
		t.Fatalf("%v, line %d, %v; want %v, line %d, %v: %s", l, is.line, is.err, want, wrong.line, wrong.err, short(x))
	}
	return l, is
}

func short(x api.Tree) string {
	s := tree.Print(x)
	if s == "" {
		s = fmt.Sprintf("%+v", x)
	}
	return s[:min(len(s), 1500)]
}
