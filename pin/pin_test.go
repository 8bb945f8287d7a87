package pin_test

import (
	"slices"
	"testing"

	"semispace/api"
	"semispace/heaptest"
	"semispace/pin"
)

// The examples of chapter 17.
func TestExamples(t *testing.T) {
	s := ordinary()
	refuses(t, s, "Release", releasing(4096), api.ErrUnpinned)
	if v, e := loaded(t, s, 4150); v != 0 || e != api.ErrExtent { // behind the last field of the object at 4147
		t.Errorf("Load: %d, error %d", v, e)
	}
	refuses(t, s, "Store", storing(4146, 4096), api.ErrPointer)
}

// with is a state with other pins, of which n more are on page i.
func with(s state, i, n int, pins ...api.Pin) state {
	s = copied(state{s.heap, pins})
	s.heap.Pages[i].Pins += n
	return s
}

// becomes checks the result of a call that has no error.
func becomes(t *testing.T, s state, name string, do call, addr uint64, want state) {
	t.Helper()
	out, n, e := after(t, s, do)
	if e != api.OK || n != addr || !same(out, want) {
		t.Fatalf("%s: %d, error %d, want %d;\n%v, want\n%v", name, n, e, addr, out, want)
	}
}

// 17.2: objects with and without a pin, small and large, with fields and
// without.
func TestGet(t *testing.T) {
	s := ordinary()
	a, b, c, d := s.pins[0], s.pins[1], s.pins[2], s.pins[3]
	becomes(t, s, "a second Get", getting(4144), 4145, with(s, 3, 1, a, b, c, api.Pin{Ref: 4144, Count: 2}))
	becomes(t, s, "a third Get", getting(4147), 4148, with(s, 3, 1, api.Pin{Ref: 4147, Count: 3}, b, c, d))
	becomes(t, s, "the second Get of a large object", getting(4192), 4193, with(s, 6, 1, a, api.Pin{Ref: 4192, Count: 2}, c, d))
	becomes(t, s, "the first Get of a large object", getting(4112), 4113, with(s, 1, 1, a, b, c, d, one(4112)))
	for _, ref := range []uint64{4096, 4102, 4104, 4105, 4106} {
		becomes(t, s, "the first Get of a small object", getting(ref), ref+1, with(s, 0, 1, a, b, c, d, one(ref)))
	}
	none := fits(s.heap)
	becomes(t, none, "the first Get of all", getting(4150), 4151, with(none, 3, 1, one(4150)))
	last := scene{Conf: heaptest.Conf, Things: []heaptest.Thing{
		heaptest.Words(7, 1, 2, 3), heaptest.Words(7, 4, 5, 6), heaptest.Words(7, 7, 8, 9), heaptest.Words(7, 1, 2), heaptest.Words(7),
	}}
	s = fits(last.Heap())
	becomes(t, s, "an object in the last word", getting(4223), 4224, with(s, 7, 1, one(4223)))
}

// 17.2: an object may have as many pins as MaxCount says, and there may be pins
// of as many objects as MaxPins says.
func TestGetLimits(t *testing.T) {
	for _, ref := range []uint64{4150, 4192, 4112} {
		s := fits(heaptest.Ordinary(0).Heap(), one(4144), api.Pin{Ref: ref, Count: 999})
		s = done(t, s, getting(ref))
		if s.pins[1].Count != 1000 {
			t.Fatalf("%v", s.pins)
		}
		refuses(t, s, "one Get too many", getting(ref), api.ErrFull)
		s = done(t, s, getting(4144)) // others may have more
		s = done(t, s, getting(4147))
		s = done(t, s, releasing(ref))
		s = done(t, s, getting(ref))
	}
	at := heaptest.List(66, false).Addresses()
	s := state{heaptest.List(66, false).Heap(), nil}
	for _, ref := range at[:64] {
		s = done(t, s, getting(ref))
	}
	for _, ref := range at[64:] {
		refuses(t, s, "a pin too many", getting(ref), api.ErrFull)
	}
	s = done(t, s, getting(at[63]))
	s = done(t, s, releasing(at[5]))
	s = done(t, s, getting(at[65]))
	refuses(t, s, "again a pin too many", getting(at[64]), api.ErrFull)
}

// perPage is a scene of so many pages with two small objects on each page, but
// for a large object on the last one.
func perPage(pages int) scene {
	s := scene{Conf: api.Conf{PageWords: 16, Pages: pages}}
	for i := range pages - 1 {
		s.Things = append(s.Things, heaptest.Words(i, 5), heaptest.Words(i))
	}
	s.Things = append(s.Things, heaptest.Words(pages-1, 1, 2, 3, 4))
	return s
}

// 17.2: how many SmallPages may have pins, in heaps of all sizes.
func TestCrowded(t *testing.T) {
	for _, pages := range []int{8, 9, 10, 11, 12, 13, 15, 16, 31, 32, 63, 64} {
		at := perPage(pages).Addresses()
		s := done(t, state{perPage(pages).Heap(), nil}, getting(at[len(at)-1])) // a LargePage does not count
		for k := range pages / 4 {
			if ref := at[4*k+3]; crowded(t, s.heap, ref) {
				t.Fatalf("%d pages, %d with pins: %d is crowded", pages, k, ref)
			}
			s = done(t, s, getting(at[4*k+1]))
		}
		for k, ref := range at {
			want := k%4 >= 2 && k < len(at)-1 || k/4 >= pages/4 && k < len(at)-1
			if got := crowded(t, s.heap, ref); got != want {
				t.Fatalf("%d pages: Crowded of %d is %v", pages, ref, got)
			}
			if want {
				refuses(t, s, "Get on another page", getting(ref), api.ErrFull)
			} else {
				done(t, s, getting(ref))
			}
		}
		s = done(t, s, releasing(at[1]))
		s = done(t, s, getting(at[2]))
	}
}

// 17.2: Crowded needs no pins that match, but a good heap and an object.
func TestCrowdedHeaps(t *testing.T) {
	h := heaptest.Crowded()
	for _, ref := range walkObjects(t, h) {
		want := slices.Contains([]uint64{4096, 4102, 4104, 4105, 4106, 4176, 4179}, ref)
		if got := crowded(t, h, ref); got != want {
			t.Errorf("Crowded of %d: %v", ref, got)
		}
	}
	for _, ref := range append(heaptest.NoObjects(), 0) {
		if crowded(t, h, ref) {
			t.Errorf("%d is crowded", ref)
		}
	}
	for k, h := range slices.Concat(heaptest.NotGood(), heaptest.NotProper()) {
		for _, ref := range []uint64{0, 4096, 4106, 4112, 4144, 4176, 4192} {
			if crowded(t, h, ref) {
				t.Errorf("%d: %d is crowded", k, ref)
			}
		}
	}
}

// 17.3: pins of which some are left, and the last ones.
func TestRelease(t *testing.T) {
	s := ordinary()
	a, b, c, d := s.pins[0], s.pins[1], s.pins[2], s.pins[3]
	becomes(t, s, "one of two", releasing(4147), 0, with(s, 3, -1, one(4147), b, c, d))
	becomes(t, s, "the last one of a large object", releasing(4192), 0, with(s, 6, -1, a, c, d))
	becomes(t, s, "the last one in the middle", releasing(4150), 0, with(s, 3, -1, a, b, d))
	becomes(t, s, "the last one at the end", releasing(4144), 0, with(s, 3, -1, a, b, c))
	s = done(t, s, releasing(4147))
	becomes(t, s, "the last one at the beginning", releasing(4147), 0, with(s, 3, -1, b, c, d))
	full := fits(s.heap, api.Pin{Ref: 4150, Count: 1000}, api.Pin{Ref: 4192, Count: 1000})
	becomes(t, full, "one of 1000", releasing(4150), 0, with(full, 3, -1, api.Pin{Ref: 4150, Count: 999}, full.pins[1]))
	only := fits(s.heap, one(4096))
	becomes(t, only, "the last one of all", releasing(4096), 0, with(only, 0, -1))
}

// fieldsOf are the places of all fields of the pinned objects of ordinary.
func fieldsOf() map[uint64]place {
	places := map[uint64]place{}
	for ref, n := range map[uint64]int{4144: 2, 4147: 2, 4150: 1, 4192: 15} {
		for i := range n {
			places[ref+1+uint64(i)] = place{ref, i, api.OK}
		}
	}
	return places
}

// 17.4: Find of each address from before the arena to behind it.
func TestFind(t *testing.T) {
	s, places := ordinary(), fieldsOf()
	strange := []uint64{0, 1, 1<<32 + 4145, 1<<63 + 4145, 1<<64 - 4096, 1<<64 - 1}
	for addr := uint64(4080); addr < 4240; addr++ {
		strange = append(strange, addr)
	}
	for _, addr := range strange {
		want, is := places[addr]
		if !is {
			want = place{e: api.ErrExtent}
		}
		if got := found(t, s, addr); got != want {
			t.Errorf("Find of %d: %v, want %v", addr, got, want)
		}
		for _, s := range []state{fits(s.heap), list(0)} { // no pins
			if got := found(t, s, addr); got != (place{e: api.ErrExtent}) {
				t.Errorf("Find of %d without pins: %v", addr, got)
			}
		}
	}
	empty := fits(s.heap, one(4104), one(4105)) // objects without fields
	for addr := uint64(4103); addr < 4109; addr++ {
		if got := found(t, empty, addr); got != (place{e: api.ErrExtent}) {
			t.Errorf("Find of %d: %v", addr, got)
		}
	}
}

// 17.4: a large object on several pages.
func TestFindLarge(t *testing.T) {
	s := fits(heaptest.Ordinary(0).Heap(), one(4112))
	for i := range 19 {
		addr := uint64(4113 + i)
		if got := found(t, s, addr); got != (place{4112, i, api.OK}) {
			t.Errorf("Find of %d: %v", addr, got)
		}
	}
	for _, addr := range []uint64{4112, 4132, 4143} {
		if got := found(t, s, addr); got != (place{e: api.ErrExtent}) {
			t.Errorf("Find of %d: %v", addr, got)
		}
	}
}

// raw are the fields of the pinned objects of ordinary that are no pointers.
func raw() map[uint64]uint64 {
	m := map[uint64]uint64{4145: 4096, 4148: 5, 4149: 1<<64 - 1}
	for i := range uint64(15) {
		m[4193+i] = 0
	}
	return m
}

// 17.4: raw accesses to each address.
func TestRaw(t *testing.T) {
	s, values := ordinary(), raw()
	for _, addr := range append([]uint64{0, 1, 1<<32 + 4145, 1<<64 - 1}, slices.Collect(between(4090, 4230))...) {
		want := api.OK
		if addr == 4146 || addr == 4151 {
			want = api.ErrPointer
		} else if _, is := values[addr]; !is {
			want = api.ErrExtent
		}
		v, e := loaded(t, s, addr)
		if v != values[addr] || e != want {
			t.Errorf("Load of %d: %d, error %d, want %d", addr, v, e, want)
		}
		for _, v := range []uint64{0, 9, 4096, 4145, 1<<64 - 1} {
			if want != api.OK {
				refuses(t, s, "Store", storing(addr, v), want)
				continue
			}
			changed := copied(s)
			changed.heap.Words[addr-4096] = v
			becomes(t, s, "Store", storing(addr, v), 0, changed)
			if got, e := loaded(t, changed, addr); got != v || e != api.OK {
				t.Errorf("Load of %d after Store: %d, error %d, want %d", addr, got, e, v)
			}
		}
	}
}

// between yields the addresses from one to another, which is left out.
func between(from, to uint64) func(func(uint64) bool) {
	return func(yield func(uint64) bool) {
		for addr := from; addr < to && yield(addr); addr++ {
		}
	}
}

// 17.4: each field of a Record is a pointer or not, as its Map says, whatever it
// holds; those of Refs all are, those of Words are not.
func TestRawKinds(t *testing.T) {
	for m := range uint32(64) {
		s := scene{Conf: heaptest.Wide, Things: []heaptest.Thing{
			heaptest.Record(2, m, 1, 1, 1, 1, 1, 1), heaptest.Refs(2, 1, 0), heaptest.Words(2, 4224, 0),
		}}
		at := s.Addresses()
		p := fits(s.Heap(), one(at[1]), one(at[2]), one(at[0]))
		for i := range uint64(6) {
			want := api.Errno(api.ErrPointer * api.Errno(m>>i&1))
			if v, e := loaded(t, p, at[0]+1+i); e != want || v != uint64(1-m>>i&1) {
				t.Errorf("Map %d, field %d: %d, error %d, want %d", m, i, v, e, want)
			}
		}
		for i := range uint64(2) {
			if _, e := loaded(t, p, at[1]+1+i); e != api.ErrPointer {
				t.Errorf("field %d of Refs: error %d", i, e)
			}
			if v, e := loaded(t, p, at[2]+1+i); v != 4224-4224*i || e != api.OK {
				t.Errorf("field %d of Words: %d, error %d", i, v, e)
			}
		}
	}
}

// all are all calls that have an error, with one argument.
func all(t *testing.T, s state, a uint64) map[string]api.Errno {
	t.Helper()
	m := map[string]api.Errno{}
	_, _, m["Get"] = after(t, s, getting(a))
	_, _, m["Release"] = after(t, s, releasing(a))
	_, _, m["Store"] = after(t, s, storing(a, 5))
	p := found(t, s, a)
	v, e := loaded(t, s, a)
	if m["Find"], m["Load"] = p.e, e; e != api.OK && v != 0 || p.e != api.OK && p != (place{e: p.e}) {
		t.Fatalf("with an error, Load is %d, Find is %v", v, p)
	}
	return m
}

// 17.1: pins that do not match come first.
func TestCorrupt(t *testing.T) {
	for k, s := range corrupt() {
		for _, a := range []uint64{0, 4096, 4097, 4112, 4144, 4145, 4146, 4147, 4192, 4193, 1<<64 - 1} {
			for name, e := range all(t, s, a) {
				if e != api.ErrCorrupt {
					t.Errorf("%d: %s of %d: error %d", k, name, a, e)
				}
			}
		}
	}
}

// 17.2 and 17.3: the order of the other errors, with and without room for pins.
func TestErrors(t *testing.T) {
	h := heaptest.Ordinary(0).Heap()
	full := list(64)
	busy := fits(h, one(4144), one(4096), api.Pin{Ref: 4192, Count: 1000})
	for k, s := range []state{fits(h), ordinary(), busy, full} {
		refuses(t, s, "Get of null", getting(0), api.ErrNull)
		refuses(t, s, "Release of null", releasing(0), api.ErrNull)
		for _, ref := range heaptest.NoObjects() {
			if k == 3 && ref >= 4096 && ref < 4224 {
				ref |= 1 // a field
			}
			refuses(t, s, "Get of no object", getting(ref), api.ErrArg)
			refuses(t, s, "Release of no object", releasing(ref), api.ErrUnpinned)
		}
	}
	for _, ref := range []uint64{4096, 4102, 4105, 4112, 4176, 4179} {
		refuses(t, ordinary(), "Release of an object without a pin", releasing(ref), api.ErrUnpinned)
	}
	refuses(t, busy, "Release of a neighbour", releasing(4102), api.ErrUnpinned)
	refuses(t, busy, "Get on a third page", getting(4176), api.ErrFull)
	refuses(t, busy, "Get for the 1001st time", getting(4192), api.ErrFull)
	done(t, busy, getting(4112))
	done(t, busy, getting(4106))
}

// 17.2: all that ErrFull is for, at once: no object can be pinned any more.
func TestFullInAllWays(t *testing.T) {
	m := scene{Conf: api.Conf{PageWords: 16, Pages: 64}}
	for k := range 80 {
		m.Things = append(m.Things, heaptest.Words(k/4, 1, 2, 3))
	}
	m.Things = append(m.Things, heaptest.Words(20, 1, 2, 3, 4))
	at := m.Addresses()
	var pins []api.Pin
	for _, ref := range at[:64] { // on as many pages as may have pins
		pins = append(pins, api.Pin{Ref: ref, Count: 1000})
	}
	s := fits(m.Heap(), pins...)
	for k, ref := range at {
		if crowded(t, s.heap, ref) != (k >= 64 && k < 80) {
			t.Fatalf("Crowded of %d", ref)
		}
		refuses(t, s, "Get", getting(ref), api.ErrFull)
		if k >= 64 {
			refuses(t, s, "Release", releasing(ref), api.ErrUnpinned)
		}
	}
}

// R5: two calls with the same arguments have the same results.
func TestSameResults(t *testing.T) {
	s := ordinary()
	for _, do := range []call{getting(4147), getting(4112), releasing(4147), releasing(4192), storing(4148, 3)} {
		a := done(t, s, do)
		done(t, list(5), getting(4098))
		if b := done(t, s, do); !same(a, b) {
			t.Errorf("%v, before %v", b, a)
		}
	}
}

// R1: no call panics, and all end, on states that are as strange as can be; they
// have ErrCorrupt exactly if the pins do not match.
func TestStrangeStates(t *testing.T) {
	results := map[bool]int{}
	for seed := range 1000 {
		x := heaptest.Numbers(seed + 1)
		s := irregular(&x).state()
		spoil(&x, &s)
		if x.Below(4) == 0 {
			s.heap.Conf.Pages, s.heap.Pages = x.Below(9), s.heap.Pages[:x.Below(len(s.heap.Pages))]
		}
		a := uint64(4090 + x.Below(200))
		results[belongs(s)]++
		for name, e := range all(t, s, a) {
			if (e == api.ErrCorrupt) == belongs(s) {
				t.Errorf("%s of %d: error %d with %v", name, a, e, s)
			}
		}
		pin.Crowded(s.heap, a)
	}
	if min(results[true], results[false]) < 200 {
		t.Errorf("hardly any of one kind: %v", results)
	}
}
