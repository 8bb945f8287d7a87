package boundary_test

import (
	"testing"

	"semispace/api"
	"semispace/env"
	"semispace/envtest"
	"semispace/heaptest"
)

// someRequest returns a call, with arguments that it mostly can have.
func someRequest(x *heaptest.Numbers, y api.Env) request {
	op, a, b, c := envtest.SomeCall(x, y)
	return request{op, a, b, c}
}

// 19.1: irregular environments, in which there is hardly ever room for another
// object, and others that begin with nothing; and calls one after the other.
func TestIrregular(t *testing.T) {
	count := envtest.Counts{}
	for seed := range 500 {
		x := heaptest.Numbers(seed + 1)
		y := envtest.Irregular(&x)
		if seed%3 == 0 {
			y = frame(y.Heap.Conf, 8)
		}
		for range 16 {
			r := someRequest(&x, y)
			out, _, e := calls(t, y, r)
			count.Call(r.op, e)
			if e == api.OK {
				y = out
			}
		}
	}
	often(t, count, 10, envtest.Errors()...)
	often(t, count, 10, envtest.Calls(1)...)
}

// R1: no call panics, and all end, in environments that are as strange as can
// be.
func TestStrangeEnvironments(t *testing.T) {
	results := map[bool]int{}
	for seed := range 1000 {
		x := heaptest.Numbers(seed + 1)
		y := envtest.Irregular(&x)
		r := someRequest(&x, y)
		for range x.Below(4) {
			envtest.Spoil(&x, &y)
		}
		if x.Below(5) == 0 {
			y.Heap.Conf.Pages, y.Heap.Pages = x.Below(9), y.Heap.Pages[:x.Below(len(y.Heap.Pages))]
		}
		if x.Below(5) == 0 {
			r.op = x.Below(50) - 20
		}
		ok := env.Valid(y)
		results[ok]++
		if ok {
			calls(t, y, r)
		} else if _, _, e := after(t, y, r); e != api.ErrCorrupt {
			t.Fatalf("%v: error %d, with %s", r, e, show(y))
		}
	}
	if min(results[true], results[false]) < 300 {
		t.Errorf("hardly any of one kind: %v", results)
	}
}
