package scope_test

import (
	"slices"
	"testing"

	"semispace/api"
	"semispace/heaptest"
	"semispace/scope"
)

// play is a sequence of calls, with a model beside the locals.
type play struct {
	t *testing.T
	m model
	l api.Locals
}

// check does a call and compares its error, and the locals after it, with the
// model, which has done the same.
func (p *play) check(name string, want api.Errno, do call) {
	p.t.Helper()
	l, e := after(p.t, p.l, do)
	if e != want {
		p.t.Fatalf("%s with %v: error %d, want %d", name, p.l, e, want)
	}
	if e == api.OK {
		p.l = l
	}
	if !same(p.l, p.m.locals()) {
		p.t.Fatalf("after %s: %v, want %v", name, p.l, p.m.locals())
	}
}

func (p *play) enter(room int) { p.check("Enter", p.m.enter(room), entering(room)) }
func (p *play) push(room int)  { p.check("Push", p.m.push(room), pushing(room)) }
func (p *play) leave()         { p.check("Leave", p.m.leave(), scope.Leave) }
func (p *play) pop()           { p.check("Pop", p.m.pop(), scope.Pop) }

func (p *play) new(ref uint64) {
	p.t.Helper()
	var index, stamp int
	wantIndex, wantStamp, want := p.m.new(ref)
	p.check("New", want, making(ref, &index, &stamp))
	if index != wantIndex || stamp != wantStamp {
		p.t.Fatalf("New: index %d and stamp %d, want %d and %d", index, stamp, wantIndex, wantStamp)
	}
}

func (p *play) delete(index, stamp int) {
	p.t.Helper()
	p.check("Delete", p.m.delete(index, stamp), deleting(index, stamp))
}

// move is Move; it also checks that the references that it is given stay as
// they are.
func (p *play) move(refs []uint64) {
	p.t.Helper()
	given := heaptest.Roomy(refs, 77)
	before := heaptest.Whole(given)
	p.check("Move", p.m.move(refs), moving(given...))
	if !slices.Equal(heaptest.Whole(given), before) {
		p.t.Fatal("the references have changed")
	}
}

// lookAll compares all handles that there could be, and Refs, with the model.
func (p *play) lookAll() {
	p.t.Helper()
	if list := refs(p.t, p.l); !slices.Equal(list, p.m.refs()) {
		p.t.Fatalf("Refs of %v: %v, want %v", p.l, list, p.m.refs())
	}
	for stamp := -1; stamp <= len(p.m.handles)+1; stamp++ {
		for index := -1; index <= len(p.m.slots())+2; index++ {
			ref, e := got(p.t, p.l, index, stamp)
			if want, wantError := p.m.get(index, stamp); ref != want || e != wantError {
				p.t.Fatalf("Get of %d and %d in %v: %d, error %d, want %d, error %d", index, stamp, p.l, ref, e, want, wantError)
			}
		}
	}
}

// step does an irregular call.
func (p *play) step(x *heaptest.Numbers) {
	p.t.Helper()
	switch x.Below(16) {
	case 0, 1:
		p.enter(x.Below(5))
	case 2, 3:
		p.push(x.Below(5))
	case 4:
		p.push(x.Below(80) - 8)
	case 5:
		p.leave()
	case 6:
		p.pop()
	case 7, 8:
		p.delete(p.handle(x))
	case 9:
		p.move(x.SomeRefs(len(p.m.refs())))
	default:
		p.new(uint64(x.Below(20)))
	}
}

// handle returns the numbers of a handle that has been issued, or almost.
func (p *play) handle(x *heaptest.Numbers) (index, stamp int) {
	stamp = x.Below(len(p.m.handles)+3) - 1
	if stamp < 1 || stamp > len(p.m.handles) || x.Below(8) == 0 {
		return x.Below(6) - 1, stamp
	}
	return p.m.of(stamp).index, stamp
}

// 14.6, and 14.2 to 14.5: whatever has been done before, each pair of numbers
// is a handle that can be used, or one that was never issued, popped or deleted.
func TestPlays(t *testing.T) {
	for seed := range 400 {
		x := heaptest.Numbers(seed + 1)
		p := play{t: t}
		for k := range 60 {
			p.step(&x)
			if k%8 == 7 {
				p.lookAll()
			}
		}
	}
}

// 14.6: a handle stays the same while others come and go, and its numbers are
// never issued again.
func TestNoNumbersTwice(t *testing.T) {
	p := play{t: t}
	seen := map[[2]int]bool{}
	p.enter(64)
	for k := range 300 {
		p.push(k % 4)
		for j := range k % 4 {
			index, stamp, _ := p.m.new(uint64(k + 1))
			p.l = must(t, p.l, handles(uint64(k+1)))
			if seen[[2]int{index, stamp}] {
				t.Fatalf("index %d, stamp %d again", index, stamp)
			}
			seen[[2]int{index, stamp}] = true
			if j == 1 {
				p.delete(index, stamp)
			}
		}
		if k%3 != 0 {
			p.pop()
		}
		if k%40 == 39 {
			p.leave()
			p.enter(64)
		}
	}
	for stamp := range len(p.m.handles) + 1 {
		index := 0
		if stamp > 0 {
			index = p.m.of(stamp).index
		}
		ref, e := got(t, p.l, index, stamp)
		if want, wantError := p.m.get(index, stamp); ref != want || e != wantError {
			t.Fatalf("stamp %d: %d, error %d", stamp, ref, e)
		}
	}
}

// fails checks that no handle can be made, and why.
func (p *play) fails(want api.Errno) {
	p.t.Helper()
	p.new(7)
	if _, _, e := p.m.new(7); e != want {
		p.t.Errorf("error %d, want %d", e, want)
	}
}

// fill opens 64 scopes, the first one of each four with a frame, and makes 64
// handles in each, so that the stamp of a handle is its reference.
func (p *play) fill() {
	p.t.Helper()
	for k := range 64 {
		if k%4 == 0 {
			p.enter(64)
		} else {
			p.push(64)
		}
		list := make([]uint64, 64)
		for j := range list {
			list[j] = uint64(64*k + j + 1)
			p.m.new(list[j])
		}
		p.l = must(p.t, p.l, handles(list...))
		p.fails(api.ErrCapacity)
	}
}

// All of it is used: as many scopes, handles of each and stamps as there may be.
func TestAllUsed(t *testing.T) {
	p := play{t: t}
	p.fill()
	if !same(p.l, p.m.locals()) {
		t.Fatalf("locals %v", p.l)
	}
	for _, do := range []call{entering(64), pushing(64)} {
		if _, e := after(t, p.l, do); e != api.ErrDepth {
			t.Errorf("error %d", e)
		}
	}
	for stamp := 1; stamp <= 4096; stamp++ {
		if ref, e := scope.Get(p.l, stamp-1, stamp); ref != uint64(stamp) || e != api.OK {
			t.Fatalf("stamp %d: %d, error %d", stamp, ref, e)
		}
	}
	if ref, e := got(t, p.l, 4096, 4097); ref != 0 || e != api.ErrForged {
		t.Errorf("one more: %d, error %d", ref, e)
	}
	p.delete(4000, 4001) // in the last scope but one
	p.fails(api.ErrCapacity)
	p.delete(4095, 4096)
	p.fails(api.ErrFull)
	p.pop()
	p.fails(api.ErrFull)
	p.move(slices.Repeat([]uint64{5}, 4031))
	p.leave()
	p.fails(api.ErrCapacity)
	p.leave()
	p.push(0)
	p.fails(api.ErrCapacity)
	if len(p.l.Slots) != 56*64 || len(p.l.Issued) != 4096 || len(refs(t, p.l)) != 56*64 {
		t.Errorf("%d slots, %d stamps", len(p.l.Slots), len(p.l.Issued))
	}
}
