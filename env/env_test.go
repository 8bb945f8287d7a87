package env_test

import (
	"math"
	"slices"
	"testing"

	"semispace/api"
	"semispace/env"
	"semispace/envtest"
	"semispace/heaptest"
	"semispace/page"
)

// resolves checks what a word refers to.
func resolves(t *testing.T, x api.Env, w, want uint64, wantError api.Errno) {
	t.Helper()
	if ref, e := resolved(t, x, w); ref != want || e != wantError {
		t.Errorf("Resolve of %d: %d, error %d, want %d, error %d, with %s", w, ref, e, want, wantError, show(x))
	}
}

// The examples of chapter 18.
func TestExamples(t *testing.T) {
	x := envtest.Ordinary()
	resolves(t, x, 0, 0, api.OK)
	w := envtest.Word(api.Weak, 0, 1)
	resolves(t, x, w, 4105, api.OK)
	x, _ = done(t, x, collecting) // after which its object is gone
	resolves(t, x, w, 0, api.OK)
}

// 18.1: configurations that are valid, and those that are not.
func TestNew(t *testing.T) {
	for _, words := range []int{math.MinInt, -16, 0, 8, 12, 15, 16, 17, 18, 20, 32, 60, 63, 64, 65, 68, math.MaxInt} {
		for _, pages := range []int{math.MinInt, -8, 0, 7, 8, 9, 10, 63, 64, 65, math.MaxInt} {
			c := api.Conf{PageWords: words, Pages: pages}
			x, e := env.New(c)
			if h, _ := page.New(c); page.ValidConf(c) {
				if e != api.OK || !envtest.Same(x, api.Env{Heap: h}) || !valid(t, x) {
					t.Errorf("%v: error %d, %s", c, e, show(x))
				}
			} else if e != api.ErrArg || !envtest.Same(x, api.Env{}) {
				t.Errorf("%v: error %d, %s", c, e, show(x))
			}
		}
	}
	if x, _ := env.New(heaptest.Conf); !envtest.Same(x, envtest.Empty()) {
		t.Errorf("%s", show(x))
	}
}

// 18.3: the strong roots in their order, null and the same ones again among
// them. Neither deleted nor weak handles are.
func TestStrong(t *testing.T) {
	want := []uint64{4096, 0, 4144, 4096, 4106, 4179, 4112, 4106, 4147, 4104, 4147, 4192, 4150}
	if l := strong(t, envtest.Ordinary()); !slices.Equal(l, want) {
		t.Errorf("%v, want %v", l, want)
	}
	if l := strong(t, envtest.Empty()); len(l) > 0 {
		t.Errorf("%v", l)
	}
	for k, part := range [][]uint64{want[:4], want[4:8], want[8:10], want[10:]} {
		only := []api.Env{
			{Roots: envtest.Ordinary().Roots}, {Locals: envtest.Ordinary().Locals}, {Globals: envtest.Ordinary().Globals}, {Pins: envtest.Ordinary().Pins},
		}[k]
		only.Heap, only.Weaks = envtest.Ordinary().Heap, envtest.Ordinary().Weaks
		if l := strong(t, only); !slices.Equal(l, part) {
			t.Errorf("%d: %v, want %v", k, l, part)
		}
	}
	x := envtest.FullHouse()
	if l := strong(t, x); len(l) != 4096+64+64 || !slices.Equal(l, strongOf(x)) {
		t.Errorf("%v", l)
	}
}

// 18.3: irregular environments.
func TestStrongIrregular(t *testing.T) {
	for seed := range 300 {
		x := heaptest.Numbers(seed + 1)
		y := envtest.Irregular(&x)
		if l, want := strong(t, y), strongOf(y); !slices.Equal(l, want) {
			t.Fatalf("%v, want %v", l, want)
		}
	}
}

// 18.5: what each handle of envtest.Ordinary refers to. The tags tell handles
// apart that have the same index and stamp.
func TestResolve(t *testing.T) {
	x := envtest.Ordinary()
	resolves(t, x, 0, 0, api.OK)
	for _, y := range []struct {
		tag, index, stamp int
		want              uint64
		e                 api.Errno
	}{
		{api.Local, 0, 1, 4106, api.OK},
		{api.Local, 1, 2, 0, api.ErrDeleted},
		{api.Local, 2, 3, 4179, api.OK},
		{api.Local, 3, 4, 0, api.ErrStale},
		{api.Local, 4, 5, 0, api.ErrStale},
		{api.Local, 3, 6, 4112, api.OK},
		{api.Local, 4, 7, 4106, api.OK},
		{api.Local, 5, 8, 0, api.ErrForged},
		{api.Local, 1, 1, 0, api.ErrForged},
		{api.Local, 0, 2, 0, api.ErrForged},
		{api.Local, 0, envtest.MaxGen, 0, api.ErrForged},
		{api.Local, 65535, 1, 0, api.ErrForged},
		{api.Global, 0, 1, 0, api.ErrDeleted},
		{api.Global, 0, 4, 0, api.ErrDeleted},
		{api.Global, 0, 5, 0, api.ErrForged},
		{api.Global, 1, 1, 4147, api.OK},
		{api.Global, 1, 2, 0, api.ErrForged},
		{api.Global, 2, envtest.MaxGen, 0, api.ErrDeleted},
		{api.Global, 3, 7, 4104, api.OK},
		{api.Global, 3, 6, 0, api.ErrDeleted},
		{api.Global, 4, 1, 0, api.ErrForged},
		{api.Global, 65535, envtest.MaxGen, 0, api.ErrForged},
		{api.Weak, 0, 1, 4105, api.OK},
		{api.Weak, 1, 2, 4096, api.OK},
		{api.Weak, 1, 1, 0, api.ErrDeleted},
		{api.Weak, 2, 1, 0, api.ErrDeleted},
		{api.Weak, 3, 3, 0, api.OK}, // it has been cleared
		{api.Weak, 3, 2, 0, api.ErrDeleted},
		{api.Weak, 3, 4, 0, api.ErrForged},
		{api.Weak, 4, envtest.MaxGen, 4102, api.OK},
		{api.Weak, 5, 1, 4112, api.OK},
		{api.Weak, 6, 5, 4105, api.OK},
		{api.Weak, 7, 1, 0, api.ErrForged},
	} {
		resolves(t, x, envtest.Word(y.tag, y.index, y.stamp), y.want, y.e)
	}
}

// 18.5: words that are no handles, in environments with and without handles.
func TestResolveForged(t *testing.T) {
	for _, x := range []api.Env{envtest.Ordinary(), envtest.Empty(), envtest.FullHouse()} {
		for _, w := range envtest.Forged() {
			resolves(t, x, w, 0, api.ErrForged)
		}
	}
	for _, tag := range []int{api.Local, api.Global, api.Weak} {
		resolves(t, envtest.Empty(), envtest.Word(tag, 0, 1), 0, api.ErrForged)
		resolves(t, envtest.FullHouse(), envtest.Word(tag, 64, 1), 0, api.ErrForged)
	}
}

// 18.5: all handles that there may be.
func TestResolveAll(t *testing.T) {
	at := heaptest.List(65, true).Addresses()
	x := envtest.FullHouse()
	for k := range 64 {
		resolves(t, x, envtest.Word(api.Global, k, envtest.MaxGen), at[63-k], api.OK)
		resolves(t, x, envtest.Word(api.Global, k, envtest.MaxGen-1), 0, api.ErrDeleted)
		resolves(t, x, envtest.Word(api.Weak, k, envtest.MaxGen), at[64-k], api.OK)
	}
	for i := 0; i < 4096; i += 117 {
		resolves(t, x, envtest.Word(api.Local, i, i+1), at[i%64], api.OK)
		resolves(t, x, envtest.Word(api.Local, i, i+2), 0, api.ErrForged)
	}
	resolves(t, x, envtest.Word(api.Local, 4095, 4096), at[63], api.OK)
}

// 18.3 to 18.5: an environment that is not valid comes first, whatever else is
// wrong.
func TestCorrupt(t *testing.T) {
	headers := []api.Header{{Kind: api.Words, Length: 3}, {}, {Kind: api.Words, Length: 255}, {Kind: 4}, {Kind: api.Refs, Length: -1}}
	for k, x := range envtest.Corrupt() {
		refuses(t, x, collecting, api.ErrCorrupt)
		refuses(t, x, allocating(headers[k%len(headers)]), api.ErrCorrupt)
		refuses(t, x, allocating(headers[0]), api.ErrCorrupt)
		words := []uint64{0, envtest.Word(api.Local, 0, 1), envtest.Word(api.Weak, 3, 3), envtest.Forged()[k%len(envtest.Forged())], envtest.Word(api.Global, 9, 9), envtest.Word(api.Local, 1, 2)}
		for _, w := range words {
			if ref, e := resolved(t, x, w); ref != 0 || e != api.ErrCorrupt {
				t.Errorf("%d: Resolve of %d: %d, error %d", k, w, ref, e)
			}
		}
	}
}

// R5: two calls with the same arguments have the same results.
func TestSameResults(t *testing.T) {
	for _, do := range []call{collecting, allocating(words(1)), allocating(words(3))} {
		x, r := done(t, envtest.Narrow(), do)
		done(t, envtest.FullHouse(), do)
		becomes(t, envtest.Narrow(), do, x, r, api.OK)
	}
}

// R1: no call panics, and all end, on environments that are as strange as can
// be.
func TestStrangeEnvironments(t *testing.T) {
	results := map[bool]int{}
	for seed := range 1000 {
		x := heaptest.Numbers(seed + 1)
		y := envtest.Irregular(&x)
		for range x.Below(4) {
			envtest.Spoil(&x, &y)
		}
		if x.Below(5) == 0 {
			y.Heap.Conf.Pages, y.Heap.Pages = x.Below(9), y.Heap.Pages[:x.Below(len(y.Heap.Pages))]
		}
		strong(t, y)
		ok := isValid(y)
		results[ok]++
		hd := api.Header{Kind: x.Below(5) - 1, Length: x.Below(90) - 3, Map: uint32(x.Below(300))}
		for _, do := range []call{collecting, allocating(hd)} {
			if _, _, e := after(t, y, do); (e == api.ErrCorrupt) == ok {
				t.Fatalf("seed %d: error %d", seed, e)
			}
		}
		w := envtest.Word(x.Below(4), x.Below(8), x.Below(8))
		if _, e := resolved(t, y, w); (e == api.ErrCorrupt) == ok {
			t.Fatalf("seed %d: Resolve of %d: error %d", seed, w, e)
		}
	}
	if min(results[true], results[false]) < 300 {
		t.Errorf("hardly any of one kind: %v", results)
	}
}
