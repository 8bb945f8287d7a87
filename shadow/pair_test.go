package shadow_test

import (
	"slices"
	"testing"

	"semispace/api"
	"semispace/boundary"
	"semispace/env"
	"semispace/envtest"
	"semispace/graph"
	"semispace/heaptest"
	"semispace/object"
	"semispace/pin"
	"semispace/rules"
	"semispace/scope"
	"semispace/shadow"
	"semispace/worldtest"
)

// pair is an environment and its model, to which the same is done.
type pair struct {
	t *testing.T
	*heaptest.Numbers
	x     api.Env
	w     rules.World
	count envtest.Counts
}

// call does a call on both. The model learns from the environment only the fact.
func (p *pair) call(op int, a, b, c uint64) {
	p.t.Helper()
	x, v, e := boundary.Call(p.x, op, a, b, c)
	r := request{op, a, b, c, shadow.Witness(p.x, x, op, v, e)}
	w, u, f := after(p.t, p.w, calling(r))
	if u != v || f != e {
		p.t.Fatalf("%v: %d, error %d, and in the environment %d, error %d, with %s", r, u, f, v, e, show(p.w))
	}
	p.count.Call(op, e)
	if e != api.OK {
		return
	}
	if r.fact.Collected {
		p.count["collections"]++
		p.countCleared(w)
	}
	p.x, p.w = x, w
}

// countCleared counts the weak handles that a collection has cleared.
func (p *pair) countCleared(after rules.World) {
	for i, y := range p.w.Weaks.Entries {
		if y.Ref != after.Weaks.Entries[i].Ref {
			p.count["cleared"]++
		}
	}
}

// must ends the test if there is an error.
func (p *pair) must(l ...api.Errno) {
	p.t.Helper()
	for _, e := range l {
		if e != api.OK {
			p.t.Fatalf("errors %v, with %s", l, show(p.w))
		}
	}
}

// collect does a collection on both. It fails only if more pages are in use than
// calls can lead to.
func (p *pair) collect() {
	p.t.Helper()
	x, _, e := env.Collect(p.x)
	if e == api.ErrMemory {
		p.count["failed"]++
		return
	}
	w, _, f := after(p.t, p.w, collecting)
	p.must(e, f)
	p.countCleared(w)
	p.x, p.w = x, w
}

// frame opens or closes the scope of a native frame, which native code does not
// do itself.
func (p *pair) frame() {
	p.t.Helper()
	limit := 4 + p.Below(20)
	x, e := scope.Enter(p.x.Locals, limit)
	w, f := scope.Enter(p.w.Locals, limit)
	if len(p.x.Locals.Scopes) > 0 && p.Below(3) > 0 {
		x, e = scope.Leave(p.x.Locals)
		w, f = scope.Leave(p.w.Locals)
	}
	if e != f {
		p.t.Fatalf("error %d, and in the environment %d, with %s", f, e, show(p.w))
	}
	if e == api.OK {
		p.x.Locals, p.w.Locals = x, w
	}
}

// root lets managed code have another root, which is that of a handle, or give
// up one of its roots.
func (p *pair) root() {
	p.t.Helper()
	if n := len(p.x.Roots); n > 0 && p.Below(3) > 0 {
		k := p.Below(n)
		p.x.Roots, p.w.Roots = slices.Delete(p.x.Roots, k, k+1), slices.Delete(p.w.Roots, k, k+1)
		return
	}
	v := envtest.SomeWord(p.Numbers, p.x)
	ref, e := env.Resolve(p.x, v)
	id, f := rules.Resolve(p.w, v)
	if e != f {
		p.t.Fatalf("Resolve of %d: error %d, and in the environment %d, with %s", v, f, e, show(p.w))
	}
	p.x.Roots, p.w.Roots = append(p.x.Roots, ref), append(p.w.Roots, id)
}

// argument gives a handle of a pinned object to native code, as managed code can
// do it, and mostly releases the object by it.
func (p *pair) argument() {
	p.t.Helper()
	if len(p.x.Pins) == 0 {
		return
	}
	k := p.Below(len(p.x.Pins))
	x, i, stamp, e := scope.New(p.x.Locals, p.x.Pins[k].Ref)
	w, j, other, f := scope.New(p.w.Locals, p.w.Marks[k].Id)
	if i != j || stamp != other || e != f {
		p.t.Fatalf("%d, %d, error %d, and in the environment %d, %d, error %d, with %s", j, other, f, i, stamp, e, show(p.w))
	}
	if e != api.OK {
		return
	}
	p.x.Locals, p.w.Locals = x, w
	for range p.Below(4) {
		p.call(boundary.Release, envtest.Word(api.Local, i, stamp), 0, 0)
	}
}

// raw reads and writes a word in or near an extent.
func (p *pair) raw() {
	p.t.Helper()
	addr := uint64(4096 + p.Below(len(p.x.Heap.Words)))
	if len(p.x.Pins) > 0 && p.Below(6) > 0 {
		addr = p.x.Pins[p.Below(len(p.x.Pins))].Ref + uint64(p.Below(5))
	}
	v, e := pin.Load(p.x.Heap, p.x.Pins, addr)
	if u, f := load(p.t, p.w, addr); u != v || f != e {
		p.t.Fatalf("Load of %d: %d, error %d, and in the environment %d, error %d, with %s", addr, u, f, v, e, show(p.w))
	}
	v += uint64(p.Below(3))
	h, e := pin.Store(p.x.Heap, p.x.Pins, addr, v)
	w, _, f := after(p.t, p.w, storing(addr, v))
	if f != e {
		p.t.Fatalf("Store at %d: error %d, and in the environment %d, with %s", addr, f, e, show(p.w))
	}
	if e == api.OK {
		p.count["raw"]++
		p.x.Heap, p.w = h, w
	}
}

// handle returns a handle that can be used, or 0 if there is none.
func (p *pair) handle() uint64 {
	l := []uint64{0}
	for i, s := range p.x.Locals.Slots {
		if s.Live {
			l = append(l, envtest.Word(api.Local, i, s.Stamp))
		}
	}
	for k, table := range []api.Table{p.x.Globals, p.x.Weaks} {
		for i, y := range table.Entries {
			if y.Live {
				l = append(l, envtest.Word(api.Global+k, i, y.Gen))
			}
		}
	}
	return l[min(len(l)-1, 1+p.Below(len(l)))]
}

// someCall returns a call, which mostly has no error.
func (p *pair) someCall() (op int, a, b, c uint64) {
	op, a, b, c = envtest.SomeCall(p.Numbers, p.x)
	if p.Below(6) == 0 {
		return op, a, b, c
	}
	if p.Below(3) == 0 {
		a = uint64(p.Below(p.x.Heap.Conf.PageWords / 4))
		return 1 + p.Below(3), a, uint64(p.Below(1 << a)), c
	}
	switch op {
	case boundary.NewRecord, boundary.NewRefs, boundary.NewWords, boundary.PushScope:
		return op, a, b, c
	}
	a, b, c = p.handle(), p.handle(), p.handle()
	switch op {
	case boundary.GetWord, boundary.SetWord, boundary.GetRef, boundary.SetRef:
		op, b = p.someField(op, a)
	case boundary.DeleteLocal, boundary.DeleteGlobal, boundary.DeleteWeak:
		op = boundary.DeleteLocal + 2*int(a%4-api.Local)
	}
	return op, a, b, c
}

// someField returns the number of a field of the object of a, and a call that
// can have it.
func (p *pair) someField(op int, a uint64) (int, uint64) {
	id, _ := rules.Resolve(p.w, a)
	if id == 0 || len(p.w.Things[id-1].Fields) == 0 {
		return op, 0
	}
	y := p.w.Things[id-1]
	i := p.Below(len(y.Fields))
	op = boundary.GetWord + op%2
	if slices.Contains(worldtest.Pointers(y), i) {
		op += boundary.GetRef - boundary.GetWord
	}
	return op, uint64(i)
}

// step does something to both.
func (p *pair) step() {
	p.t.Helper()
	switch n := p.Below(32); {
	case n == 0 || len(p.x.Locals.Scopes) == 0 && n < 12:
		p.frame()
	case n == 1:
		p.collect()
	case n < 4:
		p.root()
	case n < 8:
		p.argument()
	case n < 10:
		p.raw()
	default:
		p.call(p.someCall())
	}
}

// relation relates addresses to identities, one to one.
type relation struct{ ids, addrs map[uint64]uint64 }

// add adds a pair and reports whether it is new, and whether it contradicts
// another one.
func (l relation) add(ref, id uint64) (isNew, ok bool) {
	other, isKnown := l.ids[ref]
	if _, isTaken := l.addrs[id]; isKnown || isTaken {
		return false, isKnown && isTaken && other == id
	}
	l.ids[ref], l.addrs[id] = id, ref
	return true, true
}

// check checks that both have the same handles, that what they refer to
// corresponds one to one, and that this is all that is reachable.
func (p *pair) check() {
	p.t.Helper()
	l := relation{map[uint64]uint64{0: 0}, map[uint64]uint64{0: 0}}
	p.relate(l, p.x.Roots, p.w.Roots)
	if len(p.x.Pins) != len(p.w.Marks) {
		p.t.Fatalf("pins %v, with %s", p.x.Pins, show(p.w))
	}
	for k, m := range p.w.Marks {
		q := p.x.Pins[k]
		if m.Count != q.Count || m.Base != q.Ref+1 {
			p.t.Fatalf("mark %v, pin %v, with %s", m, q, show(p.w))
		}
		p.relate(l, []uint64{q.Ref}, []uint64{m.Id})
	}
	blank := [2]api.Env{{Locals: p.x.Locals, Globals: p.x.Globals, Weaks: p.x.Weaks}, {Locals: p.w.Locals, Globals: p.w.Globals, Weaks: p.w.Weaks}}
	var refs [2][]uint64
	for k := range blank {
		blank[k] = envtest.Changed(blank[k], func(x *api.Env) { refs[k] = takeRefs(x) })
	}
	if !envtest.Same(blank[0], blank[1]) {
		p.t.Fatalf("%v, and in the environment %v", blank[1], blank[0])
	}
	p.relate(l, refs[0], refs[1])
	p.isReachable(l)
}

// takeRefs takes all Refs of handles away.
func takeRefs(x *api.Env) []uint64 {
	var refs []uint64
	for i := range x.Locals.Slots {
		refs, x.Locals.Slots[i].Ref = append(refs, x.Locals.Slots[i].Ref), 0
	}
	for _, l := range [][]api.Entry{x.Globals.Entries, x.Weaks.Entries} {
		for i := range l {
			refs, l[i].Ref = append(refs, l[i].Ref), 0
		}
	}
	return refs
}

// relate relates references to identities, and then what these refer to.
func (p *pair) relate(l relation, refs, ids []uint64) {
	p.t.Helper()
	if len(refs) != len(ids) {
		p.t.Fatalf("%v, and in the environment %v", ids, refs)
	}
	for k, ref := range refs {
		isNew, ok := l.add(ref, ids[k])
		if !ok {
			p.t.Fatalf("thing %d is at %d, with %v", ids[k], ref, l)
		}
		if !isNew {
			continue
		}
		y := p.w.Things[ids[k]-1]
		hd, e := object.Get(p.x.Heap, ref)
		fields, f := object.Fields(p.x.Heap, ref)
		p.must(e, f)
		if hd != y.Header {
			p.t.Fatalf("thing %d is %v, and in the environment %v", ids[k], y, hd)
		}
		here := slices.Clone(y.Fields)
		var there, things []uint64
		for _, i := range worldtest.Pointers(y) {
			there, things = append(there, fields[i]), append(things, here[i])
			fields[i], here[i] = 0, 0
		}
		if !slices.Equal(fields, here) {
			p.t.Fatalf("thing %d has words %v, and in the environment %v", ids[k], here, fields)
		}
		p.relate(l, there, things)
	}
}

// isReachable checks that the same is reachable in both.
func (p *pair) isReachable(l relation) {
	p.t.Helper()
	order, e := graph.Order(p.x.Heap, env.Strong(p.x))
	p.must(e)
	in := make([]bool, len(p.w.Things))
	for _, ref := range order {
		in[l.ids[ref]-1] = true
	}
	if got := reached(p.t, p.w); !slices.Equal(got, in) {
		p.t.Fatalf("%v is reached, and in the environment %v, with %s", got, in, show(p.w))
	}
}

// run does a program of so many steps.
func (p *pair) run(steps int) {
	p.t.Helper()
	p.check()
	for range steps {
		p.step()
		p.check()
	}
}

// 21.5: programs that begin with nothing.
func TestPrograms(t *testing.T) {
	count := envtest.Counts{}
	for seed := range 40 {
		n := heaptest.Numbers(seed + 1)
		p := pair{t: t, Numbers: &n, count: count}
		c := api.Conf{PageWords: 16 + 4*n.Below(6), Pages: 8 + n.Below(20)}
		x, e := env.New(c)
		w, f := shadow.New(c)
		p.must(e, f)
		p.x, p.w = x, w
		p.run(400)
	}
	often(t, count, 40, "collections", "cleared", "raw", "error 3")
	often(t, count, 40, envtest.Calls(1)...)
	if count["failed"] > 0 {
		t.Errorf("%d collections have failed", count["failed"])
	}
}

// 21.5: programs that begin in irregular environments, in models with their
// things in any order.
func TestIrregularPrograms(t *testing.T) {
	count := envtest.Counts{}
	for seed := range 200 {
		n := heaptest.Numbers(seed + 1)
		x := envtest.Irregular(&n)
		p := pair{t: t, Numbers: &n, count: count, x: x, w: worldtest.Scattered(&n, x)}
		p.run(20)
	}
	often(t, count, 10, envtest.Calls(4)...)
}

// 21.5: programs that begin at the limits.
func TestFullPrograms(t *testing.T) {
	count := envtest.Counts{}
	for seed := range 4 {
		for _, x := range []api.Env{envtest.Ordinary(), envtest.Narrow(), envtest.FullHouse()} {
			n := heaptest.Numbers(seed + 1)
			p := pair{t: t, Numbers: &n, count: count, x: x, w: worldtest.Of(x)}
			p.run(50)
		}
	}
	often(t, count, 1, "error 17", "error 18")
}
