package boundary_test

import (
	"slices"

	"semispace/api"
	"semispace/boundary"
	"semispace/envtest"
)

// word returns a handle that can be used, in most cases, or one that cannot, or
// no handle.
func (p *program) word() uint64 {
	switch n := len(p.order); {
	case p.Below(24) == 0:
		return 0
	case p.Below(24) == 0:
		forged := envtest.Forged()
		return forged[p.Below(len(forged))]
	case n > 0 && p.Below(12) == 0: // the word of one that may be made later, or never
		w := p.order[p.Below(n)]
		return w + uint64(p.Below(3))<<2 + uint64(p.Below(3))<<18
	case n > 0 && p.Below(12) == 0:
		return p.order[p.Below(n)]
	}
	var l []uint64
	for _, w := range p.order {
		if p.words[w].e == api.OK {
			l = append(l, w)
		}
	}
	if len(l) == 0 {
		return 0
	}
	return l[p.Below(len(l))]
}

// request returns a call.
func (p *program) request() request {
	r := request{p.op(), p.word(), uint64(p.Below(6)), p.word()}
	switch r.op {
	case boundary.NewRecord, boundary.NewRefs, boundary.NewWords:
		r.a = uint64(p.Below(p.x.Heap.Conf.PageWords / 4))
		if p.Below(8) == 0 {
			r.a = uint64(p.Below(33))
		}
		r.b = uint64(p.Below(1 << r.a))
	case boundary.PushScope:
		r.a = uint64(1 + p.Below(20))
	case boundary.GetWord, boundary.SetWord, boundary.GetRef, boundary.SetRef:
		p.field(&r)
	case boundary.Same:
		r.b = p.word()
	case boundary.DeleteLocal, boundary.DeleteGlobal, boundary.DeleteWeak:
		if y := p.words[r.a]; y != nil && y.tag != api.Weak && p.Below(4) > 0 {
			r.op = []int{api.Local: boundary.DeleteLocal, api.Global: boundary.DeleteGlobal}[y.tag]
		}
	}
	// Whatever a program pins, it mostly releases soon, by a handle that it still
	// has.
	if len(p.pins) > 0 && (p.Below(6) == 0 || p.Below(6) > 0 && removes(r.op)) {
		r.op, r.a = boundary.Release, p.pinned()
	}
	if p.Below(40) == 0 {
		r.a, r.b = r.a+256, r.b+1<<32
	}
	return r
}

// field mostly lets a call ask for a field that there is, and that is a pointer
// if it must be one.
func (p *program) field(r *request) {
	id, _ := p.find(r.a)
	if id == 0 {
		return
	}
	y := p.things[id-1]
	r.b = uint64(p.Below(len(y.fields) + 1))
	if r.b == uint64(len(y.fields)) || p.Below(4) == 0 {
		return
	}
	r.op = boundary.GetWord + r.op%2
	if y.pointers[r.b] {
		r.op += boundary.GetRef - boundary.GetWord
	}
}

// op returns a call.
func (p *program) op() int {
	switch n := p.Below(12); {
	case n < 4:
		return 1 + p.Below(3)
	case n < 8 && p.full > 0:
		return []int{boundary.DeleteLocal, boundary.DeleteGlobal, boundary.PopScope}[p.Below(3)]
	}
	op := 4 + p.Below(17)
	if op == boundary.NewWeak && p.twins { // one could see from it whether there was a collection
		return boundary.NewGlobal
	}
	return op
}

// removes reports whether a call takes handles away.
func removes(op int) bool {
	return slices.Contains([]int{boundary.DeleteLocal, boundary.DeleteGlobal, boundary.DeleteWeak, boundary.PopScope}, op)
}

// pinned returns a handle of something that is pinned, if there still is one.
func (p *program) pinned() uint64 {
	for _, w := range p.order {
		if y := p.words[w]; y.e == api.OK && p.pins[y.id] > 0 {
			return w
		}
	}
	return p.word()
}
