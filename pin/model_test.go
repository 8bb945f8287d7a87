package pin_test

import (
	"fmt"
	"slices"
	"testing"

	"semispace/api"
	"semispace/heaptest"
	"semispace/pin"
)

type scene = heaptest.Scene

// state is a heap with pins.
type state struct {
	heap api.Heap
	pins []api.Pin
}

// String is a short form for messages: a heap may have thousands of words.
func (s state) String() string {
	return fmt.Sprintf("pins %v, pages %v, words %.160v", s.pins, s.heap.Pages, fmt.Sprint(s.heap.Words))
}

// same reports whether two states are equal.
func same(a, b state) bool { return heaptest.SameHeap(a.heap, b.heap) && slices.Equal(a.pins, b.pins) }

// copied returns a copy of a state.
func copied(s state) state {
	s.heap.Words, s.heap.Pages = slices.Clone(s.heap.Words), slices.Clone(s.heap.Pages)
	return state{s.heap, slices.Clone(s.pins)}
}

// guarded returns a copy of a state with marks behind its slices, and a function
// that reports whether all of this is still as it was.
func guarded(s state) (state, func() bool) {
	h, _, unchanged := heaptest.Guarded(s.heap)
	pins := heaptest.Roomy(s.pins, api.Pin{Ref: 77, Count: 77})
	before := heaptest.Whole(pins)
	return state{h, pins}, func() bool { return unchanged() && slices.Equal(heaptest.Whole(pins), before) }
}

// overwrite writes into the slices of a state, and behind them.
func overwrite(s state) {
	heaptest.Overwrite(s.heap)
	for k := range s.pins[:cap(s.pins)] {
		s.pins[:cap(s.pins)][k] = api.Pin{Ref: 88, Count: 88}
	}
}

// call is a call that changes a state. It may have a number as its result, too.
type call func(s state) (state, uint64, api.Errno)

func getting(ref uint64) call {
	return func(s state) (state, uint64, api.Errno) {
		h, pins, addr, e := pin.Get(s.heap, s.pins, ref)
		return state{h, pins}, addr, e
	}
}

func releasing(ref uint64) call {
	return func(s state) (state, uint64, api.Errno) {
		h, pins, e := pin.Release(s.heap, s.pins, ref)
		return state{h, pins}, 0, e
	}
}

// storing is Store, which leaves the pins as they are.
func storing(addr, v uint64) call {
	return func(s state) (state, uint64, api.Errno) {
		h, e := pin.Store(s.heap, s.pins, addr, v)
		if e != api.OK {
			return state{heap: h}, 0, e
		}
		return state{h, slices.Clone(s.pins)}, 0, e
	}
}

// after does a call. It checks that the argument stays as it is, whatever is
// done to the result, and that the pins of the result match or, together with an
// error, that all of it is zero.
func after(t *testing.T, s state, do call) (state, uint64, api.Errno) {
	t.Helper()
	given, unchanged := guarded(s)
	result, n, e := do(given)
	out := copied(result)
	overwrite(result)
	if !unchanged() {
		t.Fatalf("the argument has changed: %v", given)
	}
	if e == api.OK && !pin.Match(out.heap, out.pins) {
		t.Fatalf("the pins do not match: %v", out)
	}
	if e != api.OK && (!same(out, state{}) || n != 0) {
		t.Fatalf("with error %d, the result is %v and %d", e, out, n)
	}
	return out, n, e
}

// done is after for a call that must not have an error.
func done(t *testing.T, s state, do call) state {
	t.Helper()
	out, _, e := after(t, s, do)
	if e != api.OK {
		t.Fatalf("error %d", e)
	}
	return out
}

// refuses checks the error of a call.
func refuses(t *testing.T, s state, name string, do call, want api.Errno) {
	t.Helper()
	if _, _, e := after(t, s, do); e != want {
		t.Fatalf("%s: error %d, want %d, for %v", name, e, want, s)
	}
}

// matches, crowded, found and loaded are the calls that change nothing. They
// check that their arguments stay as they are.
func matches(t *testing.T, s state) bool {
	t.Helper()
	given, unchanged := guarded(s)
	ok := pin.Match(given.heap, given.pins)
	if !unchanged() {
		t.Fatal("Match has changed its arguments")
	}
	return ok
}

func crowded(t *testing.T, h api.Heap, ref uint64) bool {
	t.Helper()
	given, _, unchanged := heaptest.Guarded(h)
	ok := pin.Crowded(given, ref)
	if !unchanged() {
		t.Fatal("Crowded has changed its arguments")
	}
	return ok
}

// place is what Find returns.
type place struct {
	ref uint64
	i   int
	e   api.Errno
}

func found(t *testing.T, s state, addr uint64) place {
	t.Helper()
	given, unchanged := guarded(s)
	ref, i, e := pin.Find(given.heap, given.pins, addr)
	if !unchanged() {
		t.Fatal("Find has changed its arguments")
	}
	return place{ref, i, e}
}

func loaded(t *testing.T, s state, addr uint64) (uint64, api.Errno) {
	t.Helper()
	given, unchanged := guarded(s)
	v, e := pin.Load(given.heap, given.pins, addr)
	if !unchanged() {
		t.Fatal("Load has changed its arguments")
	}
	return v, e
}

// fits returns the state of these pins in a heap that has as many as they are.
func fits(h api.Heap, pins ...api.Pin) state {
	return state{heaptest.WithPins(h, pins...), slices.Clone(pins)}
}

// one is a pin with Count 1.
func one(ref uint64) api.Pin { return api.Pin{Ref: ref, Count: 1} }

// ordinary is the heap of heaptest.Ordinary with pins of three objects on page
// 3, and of the one on page 6, which is large. One more SmallPage may have pins.
func ordinary() state {
	return fits(heaptest.Ordinary(0).Heap(), api.Pin{Ref: 4147, Count: 2}, one(4192), one(4150), one(4144))
}

// mark is a pin of a thing.
type mark struct{ thing, count int }

// model is a scene whose things are pinned by marks alone.
type model struct {
	scene
	marks []mark
}

// state returns what a model looks like.
func (m model) state() state {
	s := state{heap: m.Heap()}
	at := m.Addresses()
	for _, x := range m.marks {
		s.heap.Pages[m.Things[x.thing].Page].Pins += x.count
		s.pins = append(s.pins, api.Pin{Ref: at[x.thing], Count: x.count})
	}
	return s
}

// markOf returns the index of the mark of a thing, or -1.
func (m model) markOf(thing int) int {
	return slices.IndexFunc(m.marks, func(x mark) bool { return x.thing == thing })
}

// object returns the number of the object at an address, or -1.
func (m model) object(ref uint64) int {
	k := slices.Index(m.Addresses(), ref)
	if k >= 0 && m.Things[k].IsFiller() {
		return -1
	}
	return k
}

// crowded is Crowded.
func (m model) crowded(ref uint64) bool {
	k := m.object(ref)
	if k < 0 || m.Large(m.Things[k]) {
		return false
	}
	pages := map[int]bool{}
	for _, x := range m.marks {
		if !m.Large(m.Things[x.thing]) {
			pages[m.Things[x.thing].Page] = true
		}
	}
	return !pages[m.Things[k].Page] && len(pages) >= m.Conf.Pages/4
}

func (m *model) get(ref uint64) (uint64, api.Errno) {
	if ref == 0 {
		return 0, api.ErrNull
	}
	k := m.object(ref)
	if k < 0 {
		return 0, api.ErrArg
	}
	i := m.markOf(k)
	switch {
	case i >= 0 && m.marks[i].count == 1000, i < 0 && len(m.marks) == 64, m.crowded(ref):
		return 0, api.ErrFull
	case i >= 0:
		m.marks[i].count++
	default:
		m.marks = append(m.marks, mark{k, 1})
	}
	return ref + 1, api.OK
}

func (m *model) release(ref uint64) api.Errno {
	if ref == 0 {
		return api.ErrNull
	}
	i := m.markOf(m.object(ref))
	if i < 0 {
		return api.ErrUnpinned
	}
	if m.marks[i].count--; m.marks[i].count == 0 {
		m.marks = append(slices.Clone(m.marks[:i]), m.marks[i+1:]...)
	}
	return api.OK
}

// find returns the number of the pinned object that has a field with this
// address, and that of the field, or -1 and 0.
func (m model) find(addr uint64) (thing, i int) {
	at := m.Addresses()
	for _, x := range m.marks {
		for i := range m.Things[x.thing].Fields {
			if at[x.thing]+1+uint64(i) == addr {
				return x.thing, i
			}
		}
	}
	return -1, 0
}

// raw is find for the fields that are no pointers, or the error of a raw access.
func (m model) raw(addr uint64) (thing, i int, e api.Errno) {
	thing, i = m.find(addr)
	if thing < 0 {
		return 0, 0, api.ErrExtent
	}
	if slices.Contains(m.Things[thing].Pointers(), i) {
		return 0, 0, api.ErrPointer
	}
	return thing, i, api.OK
}

func (m model) load(addr uint64) (uint64, api.Errno) {
	k, i, e := m.raw(addr)
	if e != api.OK {
		return 0, e
	}
	return m.Things[k].Fields[i], api.OK
}

func (m model) store(addr, v uint64) api.Errno {
	k, i, e := m.raw(addr)
	if e == api.OK {
		m.Things[k].Fields[i] = v
	}
	return e
}
