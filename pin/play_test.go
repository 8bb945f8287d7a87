package pin_test

import (
	"maps"
	"slices"
	"testing"

	"semispace/api"
	"semispace/heaptest"
)

// irregular returns an irregular scene in which some objects are pinned.
func irregular(x *heaptest.Numbers) model {
	m := model{scene: x.Scene()}
	m.Pinned = nil
	m.pin(x, x.Below(8))
	return m
}

// pin pins up to n objects, often as often as may be, or almost.
func (m *model) pin(x *heaptest.Numbers, n int) {
	at := m.Addresses()
	for range n {
		if len(at) == 0 {
			return
		}
		k := x.Below(len(at))
		if _, e := m.get(at[k]); e == api.OK {
			m.marks[m.markOf(k)].count = []int{1, 2, 998, 999, 1000}[x.Below(5)]
		}
	}
}

// play is a sequence of calls, with a model beside the state.
type play struct {
	t *testing.T
	m model
	s state
	*heaptest.Numbers
	results map[api.Errno]int
}

// check does a call and compares its results, and the state after it, with the
// model, which has done the same.
func (p *play) check(name string, addr uint64, want api.Errno, do call) {
	p.t.Helper()
	s, n, e := after(p.t, p.s, do)
	if e != want || n != addr {
		p.t.Fatalf("%s with %v: %d, error %d, want %d, error %d", name, p.s, n, e, addr, want)
	}
	if e == api.OK {
		p.s = s
	}
	if !same(p.s, p.m.state()) {
		p.t.Fatalf("after %s: %v, want %v", name, p.s, p.m.state())
	}
	p.results[e]++
}

func (p *play) get(ref uint64) {
	p.t.Helper()
	if ok, want := crowded(p.t, p.s.heap, ref), p.m.crowded(ref); ok != want {
		p.t.Fatalf("Crowded of %d in %v: %v, want %v", ref, p.s, ok, want)
	}
	addr, e := p.m.get(ref)
	p.check("Get", addr, e, getting(ref))
}

func (p *play) release(ref uint64) {
	p.t.Helper()
	p.check("Release", 0, p.m.release(ref), releasing(ref))
}

func (p *play) store(addr, v uint64) {
	p.t.Helper()
	p.check("Store", 0, p.m.store(addr, v), storing(addr, v))
}

// look compares Find and Load of an address with the model.
func (p *play) look(addr uint64) {
	p.t.Helper()
	want := place{e: api.ErrExtent}
	if k, i := p.m.find(addr); k >= 0 {
		want = place{p.m.Addresses()[k], i, api.OK}
	}
	if got := found(p.t, p.s, addr); got != want {
		p.t.Fatalf("Find of %d in %v: %v, want %v", addr, p.s, got, want)
	}
	v, e := loaded(p.t, p.s, addr)
	if wantValue, wantError := p.m.load(addr); v != wantValue || e != wantError {
		p.t.Fatalf("Load of %d in %v: %d, error %d, want %d, error %d", addr, p.s, v, e, wantValue, wantError)
	}
	p.results[e]++
}

// ref returns the address of a thing, sometimes that of a pinned one, or almost.
func (p *play) ref() uint64 {
	at := p.m.Addresses()
	if len(at) == 0 || p.Below(12) == 0 {
		return 4096 * uint64(p.Below(2))
	}
	k := p.Below(len(at))
	if len(p.m.marks) > 0 && p.Below(2) == 0 {
		k = p.m.marks[p.Below(len(p.m.marks))].thing
	}
	if p.Below(12) == 0 {
		return at[k] + uint64(p.Below(3)) - 1
	}
	return at[k]
}

// addr returns an address of a thing's field, or almost.
func (p *play) addr() uint64 { return p.ref() + uint64(p.Below(6)) }

// step does an irregular call.
func (p *play) step() {
	p.t.Helper()
	switch p.Below(8) {
	case 0, 1, 2:
		p.get(p.ref())
	case 3, 4:
		p.release(p.ref())
	case 5:
		p.store(p.addr(), uint64(p.Below(9000)))
	default:
		p.look(p.addr())
	}
}

// lookAll looks at all words of the arena, and those around it.
func (p *play) lookAll() {
	p.t.Helper()
	for k := range len(p.s.heap.Words) + 2 {
		p.look(uint64(4095 + k))
	}
}

// enough checks that a play, or several, had each of these results often.
func enough(t *testing.T, results map[api.Errno]int, n int, errors ...api.Errno) {
	t.Helper()
	for _, e := range errors {
		if results[e] < n {
			t.Errorf("hardly any of error %d: %v", e, results)
		}
	}
}

// 17.2 to 17.4: irregular calls in irregular heaps.
func TestPlays(t *testing.T) {
	results := map[api.Errno]int{}
	for seed := range 250 {
		x := heaptest.Numbers(seed + 1)
		m := irregular(&x)
		p := play{t: t, m: m, s: m.state(), Numbers: &x, results: results}
		for range 40 {
			p.step()
		}
		if seed%50 == 0 {
			p.lookAll()
		}
	}
	enough(t, results, 100, api.OK, api.ErrNull, api.ErrArg, api.ErrFull, api.ErrUnpinned, api.ErrExtent, api.ErrPointer)
}

// 17.2 and 17.3: the same with as many pins as may be, or almost.
func TestFullPlays(t *testing.T) {
	results := map[api.Errno]int{}
	for seed := range 6 {
		x := heaptest.Numbers(seed + 1)
		m := model{scene: heaptest.List(100, false)}
		for k := range 64 - seed%3 {
			m.marks = append(m.marks, mark{(k*7 + 3) % 100, 1 + x.Below(3)})
		}
		p := play{t: t, m: m, s: m.state(), Numbers: &x, results: results}
		for range 100 {
			p.step()
		}
	}
	enough(t, results, 10, api.OK, api.ErrFull, api.ErrUnpinned)
}

// 17.2 and 17.3: one object, from its first pin to as many as may be, and back.
func TestAllPins(t *testing.T) {
	x := heaptest.Numbers(1)
	m := model{scene: scene{Conf: heaptest.Conf, Things: []heaptest.Thing{heaptest.Words(0, 7), heaptest.Words(0, 8)}}}
	p := play{t: t, m: m, s: m.state(), Numbers: &x, results: map[api.Errno]int{}}
	p.get(4098)
	for range 1002 {
		p.get(4096)
	}
	if got, want := p.s.pins, []api.Pin{{Ref: 4098, Count: 1}, {Ref: 4096, Count: 1000}}; !slices.Equal(got, want) {
		t.Fatalf("%v, want %v", got, want)
	}
	p.get(4098)
	for range 1002 {
		p.release(4096)
		p.look(4097)
	}
	if got, want := p.s.pins, []api.Pin{{Ref: 4098, Count: 2}}; !slices.Equal(got, want) {
		t.Fatalf("%v, want %v", got, want)
	}
	// The Load after each Release counts, too.
	if want := (map[api.Errno]int{api.OK: 1002 + 1000 + 999, api.ErrFull: 2, api.ErrUnpinned: 2, api.ErrExtent: 3}); !maps.Equal(p.results, want) {
		t.Errorf("%v, want %v", p.results, want)
	}
}
