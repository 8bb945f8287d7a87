package env_test

import (
	"slices"
	"testing"

	"semispace/api"
	"semispace/bound"
	"semispace/env"
	"semispace/envtest"
	"semispace/heaptest"
	"semispace/object"
	"semispace/pin"
	"semispace/scope"
	"semispace/slots"
)

// known is a handle of a program, and the number of its object, or 0 if it is a
// weak handle that has been cleared.
type known struct{ tag, index, stamp, id int }

// lost is a handle that can no longer be used, and why.
type lost struct {
	known
	e api.Errno
}

// program makes objects and handles with the calls of the system, and knows what
// refers to what. Each object has its number in field 0, and references in all
// others.
type program struct {
	t *testing.T
	*heaptest.Numbers
	x       api.Env
	fields  [][]int // of object 1 and so on, the numbers of what they refer to, or 0
	handles []known
	lost    []lost
	roots   []int // the numbers of the roots
	pins    map[int]uint64
	count   map[string]int
}

// must ends the test if there is an error.
func (p *program) must(e api.Errno) {
	p.t.Helper()
	if e != api.OK {
		p.t.Fatalf("error %d, with %s", e, show(p.x))
	}
}

// reached reports for each number whether its object can be reached from the
// strong roots.
func (p *program) reached() []bool {
	seen := make([]bool, len(p.fields)+1)
	todo := slices.Clone(p.roots)
	for _, y := range p.handles {
		if y.tag != api.Weak {
			todo = append(todo, y.id)
		}
	}
	for id := range p.pins {
		todo = append(todo, id)
	}
	for len(todo) > 0 {
		id := todo[0]
		todo = todo[1:]
		if id > 0 && !seen[id] {
			seen[id] = true
			todo = append(todo, p.fields[id-1]...)
		}
	}
	return seen
}

// clear clears the weak handles of what cannot be reached.
func (p *program) clear() {
	seen := p.reached()
	for k, y := range p.handles {
		if y.tag == api.Weak && !seen[y.id] {
			p.handles[k].id = 0
			p.count["cleared"]++
		}
	}
}

// check checks that each handle refers to the object that it is known to refer
// to, or has the error that it must have, and that pinned objects have stayed.
func (p *program) check() {
	p.t.Helper()
	for _, y := range p.handles {
		ref, e := resolved(p.t, p.x, envtest.Word(y.tag, y.index, y.stamp))
		p.must(e)
		p.is(ref, y.id)
	}
	for _, y := range p.lost[max(0, len(p.lost)-8):] {
		resolves(p.t, p.x, envtest.Word(y.tag, y.index, y.stamp), 0, y.e)
	}
	for k, id := range p.roots {
		p.is(p.x.Roots[k], id)
	}
	for id, ref := range p.pins {
		p.is(ref, id)
	}
}

// is checks that an object has a number.
func (p *program) is(ref uint64, id int) {
	p.t.Helper()
	if ref == 0 && id == 0 {
		return
	}
	if v, e := object.Field(p.x.Heap, ref, 0); e != api.OK || v != uint64(id) {
		p.t.Fatalf("the object at %d has number %d, error %d, want %d, with %s", ref, v, e, id, show(p.x))
	}
}

// collect does a collection, which must not fail.
func (p *program) collect() {
	p.t.Helper()
	out, _, e := collects(p.t, p.x)
	p.must(e)
	p.x = out
	p.clear()
}

// allocate makes an object, unless there is no room for it, although a bound
// says that there must be. It gives up some roots and handles if there is none.
func (p *program) allocate() {
	p.t.Helper()
	n := 1 + p.Below(p.x.Heap.Conf.PageWords/4-1)
	if p.Below(6) == 0 {
		n = min(32, n+p.x.Heap.Conf.PageWords/4)
	}
	hd := api.Header{Kind: api.Record, Length: n, Map: 1<<n - 2}
	l, e := bound.Measure(p.x.Heap, strongOf(p.x))
	p.must(e)
	out, ref, full, e := allocates(p.t, p.x, hd)
	if e == api.ErrMemory && !bound.Sure(p.x.Heap.Conf, l, hd) {
		p.count["no room"]++
		p.giveUp()
		return
	}
	p.must(e)
	if p.x = out; full {
		p.count["collections"]++
		p.clear()
	}
	p.fields = append(p.fields, make([]int, n-1))
	id := len(p.fields)
	p.x.Heap, e = object.SetField(p.x.Heap, ref, 0, uint64(id))
	p.must(e)
	p.root(ref, id)
}

// root makes an object, which has only been allocated, a root or gives it a
// handle, or two.
func (p *program) root(ref uint64, id int) {
	p.t.Helper()
	if p.Below(2) == 0 {
		p.weak(ref, id)
	}
	switch p.Below(5) {
	case 0, 1:
		p.local(ref, id)
	case 2:
		p.global(ref, id)
	case 3:
		p.x.Roots, p.roots = append(p.x.Roots, ref), append(p.roots, id)
	}
}

// local, global and weak make a handle, if there can be another one.
func (p *program) local(ref uint64, id int) {
	p.t.Helper()
	if l, i, s, e := scope.New(p.x.Locals, ref); e == api.OK {
		p.x.Locals = l
		p.handles = append(p.handles, known{api.Local, i, s, id})
	}
}

func (p *program) global(ref uint64, id int) {
	p.t.Helper()
	a, i, g, e := slots.New(p.x.Globals, ref)
	if e != api.ErrFull {
		p.must(e)
		p.x.Globals = a
		p.handles = append(p.handles, known{api.Global, i, g, id})
	}
}

func (p *program) weak(ref uint64, id int) {
	p.t.Helper()
	a, i, g, e := slots.New(p.x.Weaks, ref)
	if e != api.ErrFull {
		p.must(e)
		p.x.Weaks = a
		p.handles = append(p.handles, known{api.Weak, i, g, id})
	}
}

// giveUp deletes half of the handles and roots.
func (p *program) giveUp() {
	p.t.Helper()
	for k := len(p.handles) - 1; k >= 0; k-- {
		if p.Below(2) == 0 {
			p.delete(k)
		}
	}
	for k := range p.roots {
		if p.Below(2) == 0 {
			p.roots[k], p.x.Roots[k] = 0, 0
		}
	}
	p.roots, p.x.Roots = p.roots[:len(p.roots)/2], p.x.Roots[:len(p.roots)/2]
}

// delete deletes a handle.
func (p *program) delete(k int) {
	p.t.Helper()
	y := p.handles[k]
	p.handles = slices.Delete(p.handles, k, k+1)
	p.lost = append(p.lost, lost{y, api.ErrDeleted})
	var e api.Errno
	switch y.tag {
	case api.Local:
		p.x.Locals, e = scope.Delete(p.x.Locals, y.index, y.stamp)
	case api.Global:
		p.x.Globals, e = slots.Delete(p.x.Globals, y.index, y.stamp)
	case api.Weak:
		p.x.Weaks, e = slots.Delete(p.x.Weaks, y.index, y.stamp)
	}
	p.must(e)
}

// close closes the last scope, or all those of a frame.
func (p *program) close(how func(api.Locals) (api.Locals, api.Errno)) {
	p.t.Helper()
	l, e := how(p.x.Locals)
	if e == api.ErrScope {
		return
	}
	p.must(e)
	p.x.Locals = l
	stale := func(y known) bool { return y.tag == api.Local && y.index >= len(l.Slots) }
	for k, y := range p.lost {
		if stale(y.known) {
			p.lost[k].e = api.ErrStale
		}
	}
	for _, y := range p.handles {
		if stale(y) {
			p.lost = append(p.lost, lost{y, api.ErrStale})
		}
	}
	p.handles = slices.DeleteFunc(p.handles, stale)
}

// some returns a handle of an object, and its address.
func (p *program) some() (known, uint64) {
	p.t.Helper()
	if len(p.handles) == 0 {
		return known{}, 0
	}
	y := p.handles[p.Below(len(p.handles))]
	ref, e := resolved(p.t, p.x, envtest.Word(y.tag, y.index, y.stamp))
	p.must(e)
	return y, ref
}

// link has an object refer to another one, or to none.
func (p *program) link() {
	p.t.Helper()
	y, ref := p.some()
	z, other := p.some()
	if y.id == 0 || len(p.fields[y.id-1]) == 0 {
		return
	}
	i := p.Below(len(p.fields[y.id-1]))
	h, e := object.SetField(p.x.Heap, ref, 1+i, other)
	p.must(e)
	p.x.Heap, p.fields[y.id-1][i] = h, z.id
}

// pin pins an object, if it can be and is not, and releases it otherwise.
func (p *program) pin() {
	p.t.Helper()
	y, ref := p.some()
	if y.id == 0 {
		return
	}
	if p.pins[y.id] != 0 {
		h, pins, e := pin.Release(p.x.Heap, p.x.Pins, ref)
		p.must(e)
		p.x.Heap, p.x.Pins = h, pins
		delete(p.pins, y.id)
		return
	}
	h, pins, _, e := pin.Get(p.x.Heap, p.x.Pins, ref)
	if e != api.ErrFull {
		p.must(e)
		p.x.Heap, p.x.Pins, p.pins[y.id] = h, pins, ref
		p.count["pins"]++
	}
}

// scopes opens or closes scopes, or deletes a handle.
func (p *program) scopes() {
	p.t.Helper()
	n := p.Below(8)
	switch {
	case n == 0:
		p.close(scope.Leave)
	case n == 1:
		p.close(scope.Pop)
	case n == 2 && len(p.handles) > 0:
		p.delete(p.Below(len(p.handles)))
	case n >= 6 || len(p.x.Locals.Scopes) == 0:
		if l, e := scope.Enter(p.x.Locals, p.Below(8)); e == api.OK {
			p.x.Locals = l
		}
	default:
		if l, e := scope.Push(p.x.Locals, p.Below(8)); e == api.OK {
			p.x.Locals = l
		}
	}
}

// step does something irregular.
func (p *program) step() {
	p.t.Helper()
	switch p.Below(16) {
	case 0, 1, 2, 3, 4, 5, 6:
		p.allocate()
	case 7, 8, 9, 10:
		p.link()
	case 11, 12:
		p.pin()
	case 13, 14:
		p.scopes()
	case 15:
		p.collect()
	}
}

// 18.6: whatever a program does, no collection fails; all handles and roots
// refer to their objects, pinned ones stay where they are, and weak handles are
// cleared exactly if their objects cannot be reached.
func TestPrograms(t *testing.T) {
	count := map[string]int{}
	for seed := range 24 {
		x := heaptest.Numbers(seed + 1)
		y, e := env.New(api.Conf{PageWords: 16 + 4*x.Below(6), Pages: 8 + x.Below(20)})
		p := program{t: t, Numbers: &x, x: y, pins: map[int]uint64{}, count: count}
		p.must(e)
		for range 120 {
			p.step()
			p.check()
			_, _, e := env.Collect(p.x)
			p.must(e)
		}
		p.collect()
		p.check()
	}
	for _, what := range []string{"collections", "cleared", "no room", "pins"} {
		if count[what] < 50 {
			t.Errorf("hardly any: %s, of %v", what, count)
		}
	}
}
