package scope

import (
	"errors"
	"slices"

	"selkie/api"
)

// level is a block's locals: of which function they are, and by their names their numbers.
type level struct {
	fn      int
	numbers map[string]int
}

// opened is the position within a block that begins here.
func (p position) opened() position {
	// Blocks beside each other may share the room: of these one is over when the next one begins.
	p.levels = append(p.levels, level{fn: p.fn, numbers: map[string]int{}})
	return p
}

// declaration is how a node declares its Names.
type declaration struct {
	names  bool // it does
	behind int  // behind so many of its Kids
	apart  bool // in a block of their own
}

// declares is how a node declares its Names.
func declares(n api.Node) declaration {
	var d declaration
	switch n.Kind {
	case api.SFor, api.SEach:
		d.behind = len(n.Kids) - 1
		fallthrough // a loop's names hold in its block alone, as a function's do
	case api.EFunc:
		d.apart = true
		fallthrough
	case api.SFunc:
		d.names = true
	case api.SLocal:
		d.names = true
		d.behind = len(n.Kids)
	}
	return d
}

// declare makes locals of a node's Names, in the innermost block.
func (r *resolver) declare(place int, here position) error {
	fn := &r.scope.Fns[here.fn]
	numbers := here.levels[len(here.levels)-1].numbers
	r.scope.Uses[place] = Use{Kind: Local, Index: len(fn.Vars)}
	for _, name := range r.nodes[place].Names {
		if len(fn.Vars) == api.MaxLocals {
			return r.wrong(place, api.ErrLocals)
		}
		numbers[name] = len(fn.Vars)
		fn.Vars = append(fn.Vars, Var{Name: name, Node: place})
	}
	return nil
}

// name finds out what an EName means.
func (r *resolver) name(place int, here position) error {
	use, err := r.find(r.nodes[place].S, here)
	if errors.Is(err, api.ErrNone) {
		use, err = Use{Kind: Global}, nil
	}
	if err != nil {
		return r.wrong(place, err)
	}
	r.scope.Uses[place] = use
	return nil
}

// find is how the function here comes to the local that a name means; ErrNone: there is none.
func (r *resolver) find(name string, here position) (Use, error) {
	for _, l := range slices.Backward(here.levels) {
		if number, ok := l.numbers[name]; ok {
			return r.lead(here.fn, l.fn, number)
		}
	}
	return Use{}, api.ErrNone
}

// lead is how a function comes to a local of an owner, that is itself or a function around it.
func (r *resolver) lead(fn, owner, number int) (Use, error) {
	if fn == owner {
		return Use{Kind: Local, Index: number}, nil
	}
	r.scope.Fns[owner].Vars[number].Captured = true
	// The function around comes first, so that the outer ones get their upvalues first.
	around, err := r.lead(r.scope.Fns[fn].Parent, owner, number)
	if err != nil {
		return Use{}, err
	}
	index, err := r.upvalue(fn, Upvalue{Local: around.Kind == Local, Index: around.Index})
	if err != nil {
		return Use{}, err
	}
	return Use{Kind: Up, Index: index}, nil
}

// upvalue is the number of a function's upvalue, that is a new one, unless it is there already.
func (r *resolver) upvalue(number int, up Upvalue) (int, error) {
	fn := &r.scope.Fns[number]
	if index := slices.Index(fn.Ups, up); index >= 0 {
		return index, nil
	}
	if len(fn.Ups) == api.MaxUps {
		return 0, api.ErrUps
	}
	fn.Ups = append(fn.Ups, up)
	return len(fn.Ups) - 1, nil
}
