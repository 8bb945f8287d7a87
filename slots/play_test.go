package slots_test

import (
	"slices"
	"testing"

	"semispace/api"
	"semispace/heaptest"
)

// play is a sequence of calls, with a model beside the table.
type play struct {
	t    *testing.T
	m    model
	a    api.Table
	full int // how often there was no room for a handle
}

// check does a call and compares its error, and the table after it, with the
// model, which has done the same.
func (p *play) check(name string, want api.Errno, do call) {
	p.t.Helper()
	a, e := after(p.t, p.a, do)
	if e != want {
		p.t.Fatalf("%s with %v: error %d, want %d", name, p.a, e, want)
	}
	if e == api.OK {
		p.a = a
	}
	if !same(p.a, p.m.table()) {
		p.t.Fatalf("after %s: %v, want %v", name, p.a, p.m.table())
	}
}

// new is New; it returns the numbers of the handle.
func (p *play) new(ref uint64) (index, gen int) {
	p.t.Helper()
	wantIndex, wantGen, want := p.m.new(ref)
	p.check("New", want, making(ref, &index, &gen))
	if index != wantIndex || gen != wantGen {
		p.t.Fatalf("New: index %d and generation %d, want %d and %d", index, gen, wantIndex, wantGen)
	}
	if want == api.ErrFull {
		p.full++
	}
	return index, gen
}

// fails checks that there is no room for a new handle.
func (p *play) fails() {
	p.t.Helper()
	before := p.full
	if p.new(7); p.full != before+1 {
		p.t.Fatalf("there is room in %v", p.a)
	}
}

func (p *play) set(index, gen int, ref uint64) {
	p.t.Helper()
	p.check("Set", p.m.set(index, gen, ref), setting(index, gen, ref))
}

func (p *play) delete(index, gen int) {
	p.t.Helper()
	p.check("Delete", p.m.delete(index, gen), deleting(index, gen))
}

// move is Move; it also checks that the references that it is given stay as
// they are.
func (p *play) move(refs []uint64) {
	p.t.Helper()
	given := heaptest.Roomy(refs, 77)
	before := heaptest.Whole(given)
	p.check("Move", p.m.move(refs), moving(given...))
	if !slices.Equal(heaptest.Whole(given), before) {
		p.t.Fatal("the references have changed")
	}
}

// look compares a handle with the model.
func (p *play) look(index, gen int) {
	p.t.Helper()
	ref, e := got(p.t, p.a, index, gen)
	if want, wantError := p.m.get(index, gen); ref != want || e != wantError {
		p.t.Fatalf("Get of %d and %d in %v: %d, error %d, want %d, error %d", index, gen, p.a, ref, e, want, wantError)
	}
}

// lookAll compares all handles that there could be, but for long sequences of
// deleted ones, and Refs, with the model.
func (p *play) lookAll() {
	p.t.Helper()
	if list := refs(p.t, p.a); !slices.Equal(list, p.m.refs()) {
		p.t.Fatalf("Refs of %v: %v, want %v", p.a, list, p.m.refs())
	}
	for index := -1; index <= len(p.m)+1; index++ {
		before, gen := 0, 0
		if index >= 0 && index < len(p.m) {
			before, gen = p.m[index].before, p.m[index].gen()
		}
		for k := -1; k <= min(before, 2); k++ {
			p.look(index, k)
		}
		for k := max(before-2, 3); k <= gen+2; k++ {
			p.look(index, k)
		}
	}
}

// step does an irregular call. The more of them make handles, the fuller the
// table becomes.
func (p *play) step(x *heaptest.Numbers, more int) {
	p.t.Helper()
	switch x.Below(10 + more) {
	case 0, 1, 2, 3:
		p.delete(p.handle(x))
	case 4, 5:
		index, gen := p.handle(x)
		p.set(index, gen, uint64(x.Below(20)))
	case 6:
		p.move(x.SomeRefs(len(p.m.all())))
	default:
		p.new(uint64(x.Below(20)))
	}
}

// handle returns the numbers of a handle, or almost: mostly one of the last that
// an entry has had.
func (p *play) handle(x *heaptest.Numbers) (index, gen int) {
	index = x.Below(len(p.m)+2) - 1
	if index < 0 || index >= len(p.m) {
		return index, x.Below(4) - 1
	}
	switch x.Below(8) {
	case 0:
		return index, x.Below(4) - 1
	case 1, 2:
		return index, p.m[index].gen() + x.Below(5) - 2
	}
	return index, p.m[index].gen()
}

// begin begins a play with n entries, which other handles have used before, some
// of them almost as often as can be.
func begin(t *testing.T, x *heaptest.Numbers, n int) *play {
	p := &play{t: t}
	for range n {
		before := []int{1, 2, 1 << 16, 1 << 31, maxGen - 2, maxGen - 1, maxGen}[x.Below(7)]
		p.m = append(p.m, entry{before: before})
	}
	p.a = p.m.table()
	return p
}

// 15.5, and 15.2 to 15.4: whatever has been done before, each pair of numbers is
// a handle that can be used, or one that was never made, or deleted.
func TestPlays(t *testing.T) {
	for seed := range 400 {
		x := heaptest.Numbers(seed + 1)
		p := begin(t, &x, x.Below(4))
		for k := range 80 {
			p.step(&x, seed%4)
			if k%8 == 7 {
				p.lookAll()
			}
		}
	}
}

// 15.5: the same with tables that are full, or almost.
func TestFullPlays(t *testing.T) {
	full := 0
	for seed := range 60 {
		x := heaptest.Numbers(seed + 1)
		p := begin(t, &x, 56+x.Below(9))
		for k := range 160 {
			p.step(&x, 10)
			if k%40 == 39 {
				p.lookAll()
			}
		}
		full += p.full
	}
	if full < 60 {
		t.Errorf("the tables were full %d times", full)
	}
}

// 15.5: no numbers are given to two handles, and a handle stays what it is while
// others come and go.
func TestNoNumbersTwice(t *testing.T) {
	p := play{t: t}
	seen := map[[2]int]bool{}
	for k := range 600 {
		index, gen := p.new(uint64(k))
		if seen[[2]int{index, gen}] {
			t.Fatalf("index %d, generation %d again", index, gen)
		}
		seen[[2]int{index, gen}] = true
		for i := range p.m {
			if (i+1)*(k+1)%7 == 0 || len(p.m.all()) > 60 {
				p.delete(i, p.m[i].gen())
			}
		}
	}
	p.lookAll()
	if len(seen) != 600 {
		t.Errorf("%d handles", len(seen))
	}
}

// 15.2: all of it is used, as many entries and generations as there may be.
func TestAllUsed(t *testing.T) {
	p := play{t: t}
	for k := range 64 {
		if index, gen := p.new(uint64(k)); index != k || gen != 1 {
			t.Fatalf("index %d, generation %d, want %d and 1", index, gen, k)
		}
	}
	p.fails()
	for _, k := range []int{63, 0, 30} {
		p.delete(k, 1)
		if index, gen := p.new(5); index != k || gen != 2 {
			t.Fatalf("index %d, generation %d, want %d and 2", index, gen, k)
		}
		p.fails()
	}
	p.move(slices.Repeat([]uint64{9}, 64))
	p.lookAll()
	for k := range p.m {
		p.m[k].before, p.m[k].handles = maxGen-1, nil
	}
	p.a = p.m.table()
	for k := range 64 {
		if index, gen := p.new(1); index != k || gen != maxGen {
			t.Fatalf("index %d, generation %d, want %d and the last", index, gen, k)
		}
		p.delete(k, maxGen)
	}
	p.fails()
	p.lookAll()
}
