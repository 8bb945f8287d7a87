package boundary_test

import (
	"testing"

	"semispace/api"
	"semispace/env"
	"semispace/envtest"
	"semispace/heaptest"
)

// someWord returns the word of a handle that an environment has or had, or
// something else.
func someWord(x *heaptest.Numbers, y api.Env) uint64 {
	switch n := x.Below(12); {
	case n < 5 && len(y.Locals.Issued) > 0:
		stamp := 1 + x.Below(len(y.Locals.Issued))
		if n < 3 && len(y.Locals.Slots) > 0 {
			stamp = y.Locals.Slots[x.Below(len(y.Locals.Slots))].Stamp
		}
		return envtest.Word(api.Local, y.Locals.Issued[stamp-1], stamp)
	case n < 8 && len(y.Globals.Entries) > 0:
		return someEntry(x, api.Global, y.Globals)
	case n < 11 && len(y.Weaks.Entries) > 0:
		return someEntry(x, api.Weak, y.Weaks)
	}
	forged := envtest.Forged()
	return []uint64{0, forged[x.Below(len(forged))], uint64(x.Below(70)), envtest.Word(x.Below(4), x.Below(8), x.Below(8))}[x.Below(4)]
}

// someEntry returns the word of a handle in a table, mostly of the last
// generation.
func someEntry(x *heaptest.Numbers, tag int, t api.Table) uint64 {
	i := x.Below(len(t.Entries))
	gen := t.Entries[i].Gen
	if x.Below(4) == 0 {
		gen += x.Below(3) - 1
	}
	return envtest.Word(tag, i, gen)
}

// someNumber returns a number of words, of a field or of anything else.
func someNumber(x *heaptest.Numbers) uint64 {
	if x.Below(12) == 0 {
		return uint64(1)<<x.Below(64) - uint64(x.Below(3))
	}
	return uint64(x.Below([]int{2, 4, 20}[x.Below(3)]))
}

// someRequest returns a call, with arguments that it mostly can have.
func someRequest(x *heaptest.Numbers, y api.Env) request {
	r := request{1 + x.Below(20), someWord(x, y), someNumber(x), someWord(x, y)}
	switch r.op {
	case 1, 2, 3, 17:
		r.a = someNumber(x)
	case 10:
		r.b = someWord(x, y)
	}
	return r
}

// 19.1: irregular environments, in which there is hardly ever room for another
// object, and others that begin with nothing; and calls one after the other.
func TestIrregular(t *testing.T) {
	results := map[int]int{}
	for seed := range 500 {
		x := heaptest.Numbers(seed + 1)
		y := envtest.Irregular(&x)
		if seed%3 == 0 {
			y = frame(y.Heap.Conf, 8)
		}
		for range 16 {
			r := someRequest(&x, y)
			out, _, e := calls(t, y, r)
			results[int(e)]++
			if e == api.OK {
				results[100+r.op]++
				y = out
			}
		}
	}
	for _, e := range []api.Errno{
		api.OK, api.ErrArg, api.ErrRange, api.ErrMemory, api.ErrKind, api.ErrNull, api.ErrForged, api.ErrStale,
		api.ErrDeleted, api.ErrScope, api.ErrCapacity, api.ErrFull, api.ErrUnpinned, api.ErrCritical,
	} {
		if results[int(e)] < 10 {
			t.Errorf("hardly any with error %d: %v", e, results)
		}
	}
	for op := 1; op <= 20; op++ {
		if results[100+op] < 10 {
			t.Errorf("hardly any of call %d without an error: %v", op, results)
		}
	}
}

// R1: no call panics, and all end, in environments that are as strange as can
// be.
func TestStrangeEnvironments(t *testing.T) {
	results := map[bool]int{}
	for seed := range 1000 {
		x := heaptest.Numbers(seed + 1)
		y := envtest.Irregular(&x)
		r := someRequest(&x, y)
		for range x.Below(4) {
			envtest.Spoil(&x, &y)
		}
		if x.Below(5) == 0 {
			y.Heap.Conf.Pages, y.Heap.Pages = x.Below(9), y.Heap.Pages[:x.Below(len(y.Heap.Pages))]
		}
		if x.Below(5) == 0 {
			r.op = x.Below(50) - 20
		}
		ok := env.Valid(y)
		results[ok]++
		if ok {
			calls(t, y, r)
		} else if _, _, e := after(t, y, r); e != api.ErrCorrupt {
			t.Fatalf("%v: error %d, with %s", r, e, show(y))
		}
	}
	if min(results[true], results[false]) < 300 {
		t.Errorf("hardly any of one kind: %v", results)
	}
}
