package scope

import "selkie/api"

// block is a block that is gone through: where jumps within it may lead.
type block struct {
	around   *block // the next one in the same function
	labels   map[string]label
	declared int // how many of its statements up to here declare locals of it
}

// label is where a goto may lead.
type label struct {
	place    int
	declared int // how many statements that declare locals of its block a goto must have passed
}

// find is the innermost block, from this one outwards, with a label of that name, and the label; nil: there is none.
func (b *block) find(name string) (*block, label) {
	for ; b != nil; b = b.around {
		if l, ok := b.labels[name]; ok {
			return b, l
		}
	}
	return nil, label{}
}

// block goes through a block, and through tests that stand in it, behind its statements.
func (r *resolver) block(place int, here position, tests ...int) error {
	r.scope.Of[place] = here.fn
	statements := r.nodes[place].Kids
	here = here.opened()
	here.block = &block{around: here.block, labels: map[string]label{}}
	if err := r.mark(here.block, statements, len(tests) > 0); err != nil {
		return err
	}
	for _, statement := range statements {
		if r.isLocal(statement) {
			here.block.declared++
		}
		if err := r.visit(statement, here); err != nil {
			return err
		}
	}
	return r.all(tests, here)
}

// isLocal says whether a statement declares locals of the block that it is a statement of.
func (r *resolver) isLocal(place int) bool {
	kind := r.nodes[place].Kind
	return kind == api.SLocal || kind == api.SFunc
}

// mark puts a block's labels into it, ahead of its statements: a goto sees those behind it, too.
func (r *resolver) mark(b *block, statements []int, tested bool) error {
	end := r.end(statements, tested)
	declared := 0
	for i, place := range statements {
		if r.isLocal(place) {
			declared++
		}
		n := r.nodes[place]
		if n.Kind != api.SLabel {
			continue
		}
		if there, _ := b.find(n.S); there != nil {
			return r.wrong(place, api.ErrLabel)
		}
		l := label{place: place}
		if i < end {
			l.declared = declared
		}
		b.labels[n.S] = l
	}
	return nil
}

// end is behind how many of a block's statements its locals are over: nothing but labels stands behind these.
func (r *resolver) end(statements []int, tested bool) int {
	end := len(statements)
	if tested {
		return end // the locals hold in the test
	}
	for end > 0 && r.nodes[statements[end-1]].Kind == api.SLabel {
		end--
	}
	return end
}

// jump finds out where a goto leads.
func (r *resolver) jump(place int, here position) error {
	b, l := here.block.find(r.nodes[place].S)
	if b == nil {
		return r.wrong(place, api.ErrGoto)
	}
	if b.declared < l.declared {
		return r.wrong(place, api.ErrJump)
	}
	r.scope.Uses[place] = Use{Kind: To, Index: l.place}
	return nil
}

// within is the position within a loop that is met here.
func (p position) within(loop int) position {
	p.loop = loop
	return p
}

// jumpOut finds out where a break leads.
func (r *resolver) jumpOut(place int, here position) error {
	if here.loop == none {
		return r.wrong(place, api.ErrGoto)
	}
	r.scope.Uses[place] = Use{Kind: To, Index: here.loop}
	return nil
}
