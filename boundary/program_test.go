package boundary_test

import (
	"testing"

	"semispace/api"
	"semispace/boundary"
	"semispace/env"
	"semispace/envtest"
	"semispace/heaptest"
	"semispace/pin"
	"semispace/scope"
)

// program does calls in an environment, and in a second one, its twin, in which
// everything is somewhere else. Both begin with nothing.
type program struct {
	t *testing.T
	*heaptest.Numbers
	*mind
	x, twin api.Env
	twins   bool           // whether there is a twin
	at      map[int]uint64 // of what has been pinned, the address of field 0
	full    int            // in so many steps rather delete something
	count   envtest.Counts
}

// must ends the test if there is an error.
func (p *program) must(e api.Errno) {
	p.t.Helper()
	if e != api.OK {
		p.t.Fatalf("error %d, with %s", e, show(p.x))
	}
}

// step does a call and checks what one can know of it.
func (p *program) step() {
	p.t.Helper()
	r := p.request()
	id, want := p.verdict(r)
	out, v, e := calls(p.t, p.x, r)
	p.full--
	if want == api.OK && p.noRoom(r, id, e) {
		p.full = 8
		return
	}
	if e != want {
		p.t.Fatalf("%v: error %d, want %d, with %s", r, e, want, show(p.x))
	}
	p.doTwin(r, v, e)
	p.count.Call(r.op, e)
	if e != api.OK {
		return
	}
	if out.Heap.Space != p.x.Heap.Space {
		p.count["collections"]++
		p.count["cleared"] += p.clear()
	}
	p.x = out
	if !p.learn(r, id, v) {
		p.t.Fatalf("%v: the result is %d, with %s", r, v, show(p.x))
	}
}

// noRoom reports whether a call has an error that one cannot know beforehand.
func (p *program) noRoom(r request, id int, e api.Errno) bool {
	if e == api.ErrMemory && r.op <= boundary.NewWords {
		p.count["no room"]++
		return true
	}
	// The pages of what is pinned may be too many after collections that managed
	// code has asked for.
	return e == api.ErrFull && r.op == boundary.GetCritical && p.pins[id] == 0 && len(p.pins) > 0
}

// learn remembers what a call has done, and reports whether its result can be
// right.
func (p *program) learn(r request, id int, v uint64) bool {
	switch r.op {
	case boundary.NewRecord, boundary.NewRefs, boundary.NewWords:
		return p.hold(v, api.Local, p.imagine(r))
	case boundary.Length:
		return v == uint64(len(p.things[id-1].fields))
	case boundary.Kind:
		return v == uint64(p.things[id-1].kind)
	case boundary.GetWord:
		return v == p.things[id-1].fields[r.b]
	case boundary.SetWord:
		p.things[id-1].fields[r.b] = r.c
	case boundary.GetRef:
		return p.hold(v, api.Local, int(p.things[id-1].fields[r.b]))
	case boundary.SetRef:
		other, _ := p.find(r.c)
		p.things[id-1].fields[r.b] = uint64(other)
	case boundary.Same:
		other, _ := p.find(r.b)
		return (v == 1) == (id == other) && v <= 1
	case boundary.NewLocal, boundary.NewGlobal, boundary.NewWeak:
		return p.hold(v, tagOf[r.op], id)
	case boundary.DeleteLocal, boundary.DeleteGlobal, boundary.DeleteWeak:
		p.words[r.a].e = api.ErrDeleted
	case boundary.PushScope:
		p.levels = append(p.levels, level{limit: int(r.a)})
	case boundary.PopScope:
		p.close()
		return p.hold(v, api.Local, id)
	case boundary.GetCritical:
		p.pins[id]++
		if p.pins[id] == 1 {
			p.at[id] = v
		}
		return v == p.at[id] && p.raw(id)
	case boundary.Release:
		if p.pins[id]--; p.pins[id] == 0 {
			delete(p.pins, id)
		}
	}
	return v == 0
}

// raw reports whether the words of a pinned thing are at its address.
func (p *program) raw(id int) bool {
	for i, pointer := range p.things[id-1].pointers {
		v, e := pin.Load(p.x.Heap, p.x.Pins, p.at[id]+uint64(i))
		if pointer && e != api.ErrPointer || !pointer && (e != api.OK || v != p.things[id-1].fields[i]) {
			return false
		}
	}
	return true
}

// doTwin does a call in the twin, after a collection: it must have the same
// result, unless this is an address.
func (p *program) doTwin(r request, v uint64, e api.Errno) {
	p.t.Helper()
	if !p.twins {
		return
	}
	y, _, f := env.Collect(p.twin)
	p.must(f)
	y, w, f := boundary.Call(y, r.op, r.a, r.b, r.c)
	if e != f || v != w && r.op != boundary.GetCritical {
		p.t.Fatalf("%v: %d, error %d, and in the twin %d, error %d", r, v, e, w, f)
	}
	if f == api.OK {
		p.twin = y
	}
}

// enter opens the scope of a native frame, or closes it, or collects, all of
// which native code does not do.
func (p *program) enter() {
	p.t.Helper()
	switch n := p.Below(3); {
	case n == 0 || len(p.levels) == 0:
		limit := 4 + p.Below(24)
		l, e := scope.Enter(p.x.Locals, limit)
		if e == api.ErrDepth {
			return
		}
		p.must(e)
		p.x.Locals = l
		p.levels = append(p.levels, level{base: true, limit: limit})
		p.twin.Locals, _ = scope.Enter(p.twin.Locals, limit)
	case n == 1 && len(p.pins) == 0: // pinned objects must still have handles
		l, e := scope.Leave(p.x.Locals)
		p.must(e)
		p.x.Locals = l
		for base := false; !base; {
			base = p.levels[len(p.levels)-1].base
			p.close()
		}
		p.twin.Locals, _ = scope.Leave(p.twin.Locals)
	default:
		x, _, e := env.Collect(p.x)
		p.must(e)
		p.x = x
		p.count["cleared"] += p.clear()
	}
}

// matches checks that things and objects correspond one to one, as far as
// handles and pins reach.
func (p *program) matches() {
	p.t.Helper()
	at, ids := map[int]uint64{0: 0}, map[uint64]int{0: 0}
	var see func(ref uint64, id int)
	see = func(ref uint64, id int) {
		old, isKnown := at[id]
		if other, isTaken := ids[ref]; isKnown != isTaken || isKnown && (old != ref || other != id) {
			p.t.Fatalf("thing %d is at %d, with %s", id, ref, show(p.x))
		}
		if isKnown {
			return
		}
		at[id], ids[ref] = ref, id
		y := p.things[id-1]
		if w := p.x.Heap.Words[ref-4096]; int(w>>2&3) != y.kind || int(w>>4&4095) != len(y.fields) {
			p.t.Fatalf("thing %d has header %d, with %s", id, w, show(p.x))
		}
		for i, v := range y.fields {
			if w := p.x.Heap.Words[ref-4096+1+uint64(i)]; y.pointers[i] {
				see(w, int(v))
			} else if w != v {
				p.t.Fatalf("field %d of thing %d is %d, want %d, with %s", i, id, w, v, show(p.x))
			}
		}
	}
	m := model{x: p.x}
	for _, w := range p.order {
		ref, e := m.resolve(w)
		if e != p.words[w].e {
			p.t.Fatalf("the handle %d has error %d, want %d", w, e, p.words[w].e)
		}
		if e == api.OK {
			see(ref, p.words[w].id)
		}
	}
	for id := range p.pins {
		see(p.at[id]-1, id)
	}
}

// run does a program of so many steps.
func (p *program) run(n int) {
	p.t.Helper()
	p.mind, p.at, p.full = newMind(), map[int]uint64{}, 0
	y, e := env.New(api.Conf{PageWords: 16 + 4*p.Below(6), Pages: 8 + p.Below(20)})
	p.must(e)
	z, e := env.New(heaptest.Wide)
	p.must(e)
	p.x, p.twin = y, z
	for range n {
		if p.Below(25) == 0 {
			p.enter()
		}
		p.step()
		p.matches()
	}
}

// often checks that all these things have happened often.
func often(t *testing.T, count envtest.Counts, n int, things ...string) {
	t.Helper()
	if l := count.Seldom(n, things...); len(l) > 0 {
		t.Errorf("hardly any: %v, of %v", l, count)
	}
}

// 19.1 to 19.3: whatever a program does, each handle is of use for its object
// only, as long as it is to be used, and all errors follow from what one knows
// without addresses, but for those that say that there is no room.
func TestPrograms(t *testing.T) {
	count := envtest.Counts{}
	for seed := range 48 {
		x := heaptest.Numbers(seed + 1)
		p := program{t: t, Numbers: &x, count: count}
		p.run(400)
	}
	often(t, count, 40, "collections", "cleared", "no room")
	often(t, count, 40, envtest.Calls(1)...)
}

// 19.3: no result but that of GetCritical depends on where objects are. There
// are no weak handles, which show whether there has been a collection.
func TestBlindness(t *testing.T) {
	count := envtest.Counts{}
	for seed := range 16 {
		x := heaptest.Numbers(seed + 1000)
		p := program{t: t, Numbers: &x, twins: true, count: count}
		p.run(200)
	}
	often(t, count, 20, "collections", "call 3", "call 6", "call 8", "call 9", "call 10", "call 11", "call 13", "call 19")
}
