package pin_test

import (
	"slices"
	"testing"

	"semispace/alloc"
	"semispace/api"
	"semispace/collect"
	"semispace/heaptest"
	"semispace/object"
	"semispace/page"
)

// known is an object of a program: where it is, how often it is pinned, and,
// from its first pin on, the address of its field 0, which must stay.
type known struct {
	ref, raw uint64
	count    int
	data     uint64 // in its last field
	last     int    // the number of this field
}

// program allocates objects, pins and releases them, and does collections.
type program struct {
	t *testing.T
	*heaptest.Numbers
	state
	objects []*known
	moved   int // how many objects collections have moved
	stayed  int // how many pinned objects they have not
}

// collect does a collection with what the program knows and what is pinned as
// the strong roots.
func (p *program) collect() {
	p.t.Helper()
	var strong []uint64
	for _, x := range p.objects {
		strong = append(strong, x.ref)
	}
	for _, x := range p.pins {
		strong = append(strong, x.Ref)
	}
	h, roots, _, _, e := collect.Collect(p.heap, strong, nil)
	if e != api.OK {
		p.t.Fatalf("a collection has error %d", e)
	}
	p.heap = h
	for k, x := range p.objects {
		if roots[k] != x.ref {
			p.moved++
		} else if x.count > 0 {
			p.stayed++
		}
		if x.count > 0 && roots[k] != x.ref {
			p.t.Fatalf("the object at %d is at %d, with %d pins", x.ref, roots[k], x.count)
		}
		x.ref = roots[k]
	}
	for k, x := range p.pins {
		if roots[len(p.objects)+k] != x.Ref {
			p.t.Fatalf("the pin of %d is one of %d", x.Ref, roots[len(p.objects)+k])
		}
	}
	if !matches(p.t, p.state) {
		p.t.Fatalf("after a collection, the pins do not match: %v", p.state)
	}
}

// allocate makes an object, if there is room. It gives up some objects without
// pins if there is none.
func (p *program) allocate() {
	p.t.Helper()
	hd := api.Header{Kind: api.Record, Length: 2 + p.Below(p.heap.Conf.PageWords/4-2), Map: 1}
	if p.Below(6) == 0 {
		hd.Length += p.heap.Conf.PageWords / 4
	}
	h, ref, e := alloc.New(p.heap, hd)
	if e != api.OK {
		p.objects = slices.DeleteFunc(p.objects, func(x *known) bool { return x.count == 0 && p.Below(2) == 0 })
		p.collect()
		return
	}
	x := known{ref: ref, data: uint64(p.Below(9000)), last: hd.Length - 1}
	if p.heap, e = object.SetField(h, ref, x.last, x.data); e != api.OK {
		p.t.Fatalf("error %d", e)
	}
	p.objects = append(p.objects, &x)
}

// pin pins an object once more, if it can be.
func (p *program) pin(x *known) {
	p.t.Helper()
	s, raw, e := after(p.t, p.state, getting(x.ref))
	if e == api.ErrFull {
		return
	}
	if e != api.OK || x.count > 0 && raw != x.raw {
		p.t.Fatalf("Get of %d: %d, error %d, want %d", x.ref, raw, e, x.raw)
	}
	p.state, x.raw, x.count = s, raw, x.count+1
}

// release takes a pin back, if there is one.
func (p *program) release(x *known) {
	p.t.Helper()
	if x.count == 0 {
		refuses(p.t, p.state, "Release", releasing(x.ref), api.ErrUnpinned)
		return
	}
	p.state = done(p.t, p.state, releasing(x.raw-1))
	x.count--
}

// use reads and writes the last field of an object, raw if it is pinned.
func (p *program) use(x *known) {
	p.t.Helper()
	if x.count == 0 {
		if v, e := object.Field(p.heap, x.ref, x.last); v != x.data || e != api.OK {
			p.t.Fatalf("Field: %d, error %d, want %d", v, e, x.data)
		}
		return
	}
	addr := x.raw + uint64(x.last)
	if v, e := loaded(p.t, p.state, addr); v != x.data || e != api.OK {
		p.t.Fatalf("Load: %d, error %d, want %d", v, e, x.data)
	}
	x.data = uint64(p.Below(9000))
	p.state = done(p.t, p.state, storing(addr, x.data))
	refuses(p.t, p.state, "Store", storing(x.raw, 0), api.ErrPointer)
}

// step does something irregular.
func (p *program) step() {
	p.t.Helper()
	if len(p.objects) == 0 {
		p.allocate()
		return
	}
	x := p.objects[p.Below(len(p.objects))]
	switch p.Below(12) {
	case 0, 1, 2, 3:
		p.allocate()
	case 4, 5:
		p.pin(x)
	case 6, 7, 8:
		p.release(x)
	case 9, 10:
		p.use(x)
	default:
		p.collect()
	}
}

// 17.5: whatever a program does, pinned objects stay, and what native code
// writes to them is in their fields; when all is released, no page has pins.
func TestPrograms(t *testing.T) {
	moved, stayed := 0, 0
	for seed := range 40 {
		x := heaptest.Numbers(seed + 1)
		h, _ := page.New(api.Conf{PageWords: 16 + 4*x.Below(5), Pages: 8 + 4*x.Below(6)})
		p := program{t: t, Numbers: &x, state: state{heap: h}}
		for range 120 {
			p.step()
		}
		for _, x := range p.objects {
			p.use(x)
			for x.count > 0 {
				p.release(x)
			}
		}
		if s := fits(p.heap); len(p.pins) > 0 || !same(p.state, s) {
			t.Fatalf("%v", p.state)
		}
		p.collect()
		moved, stayed = moved+p.moved, stayed+p.stayed
	}
	if min(moved, stayed) < 500 {
		t.Errorf("%d objects have moved, %d have stayed", moved, stayed)
	}
}

// 17.5: an object that is pinned three times moves only after three Releases,
// and one that is large never.
func TestPinsCount(t *testing.T) {
	for _, ref := range []uint64{4102, 4106, 4176, 4112} {
		s := fits(heaptest.Ordinary(0).Heap())
		for range 3 {
			s = done(t, s, getting(ref))
		}
		for n := 3; n >= 0; n-- {
			h, roots, _, _, e := collect.Collect(s.heap, []uint64{ref}, nil)
			if stays := n > 0 || ref == 4112; e != api.OK || (roots[0] == ref) != stays {
				t.Fatalf("with %d pins, %d is at %d, error %d", n, ref, roots[0], e)
			}
			if s.heap = h; n > 0 {
				s = done(t, s, releasing(ref))
			}
		}
		refuses(t, s, "a fourth Release", releasing(ref), api.ErrUnpinned)
	}
}
