package rules_test

import (
	"testing"

	"semispace/api"
	"semispace/env"
	"semispace/envtest"
	"semispace/heaptest"
	"semispace/object"
	"semispace/rules"
	"semispace/worldtest"
)

// resolve is rules.Resolve of a world that must stay as it is.
func resolve(t *testing.T, w rules.World, v uint64) (uint64, api.Errno) {
	t.Helper()
	given, check := guard(t, w)
	id, e := rules.Resolve(given, v)
	check()
	return id, e
}

// resolves checks what a word refers to.
func resolves(t *testing.T, w rules.World, v, want uint64, wantError api.Errno) {
	t.Helper()
	if id, e := resolve(t, w, v); id != want || e != wantError {
		t.Errorf("Resolve of %d: %d, error %d, want %d, error %d, with %s", v, id, e, want, wantError, show(w))
	}
}

// 20.2: written out. The tags tell handles apart that have the same index and
// stamp.
func TestResolve(t *testing.T) {
	w := worldtest.Ordinary()
	for v, id := range map[uint64]uint64{
		0: 0, cleared: 0, local6: 6, again6: 6, local12: 12, local7: 7, global9: 9, global4: 4,
		weak5: 5, weak1: 1, weak3: 3, weak7: 7, envtest.Word(api.Weak, 6, 5): 5,
	} {
		resolves(t, w, v, id, api.OK)
	}
	for v, e := range envtest.Unusable() {
		resolves(t, w, v, 0, e)
	}
	for _, v := range envtest.Forged() {
		resolves(t, worldtest.Empty(), v, 0, api.ErrForged)
	}
	resolves(t, worldtest.Empty(), 0, 0, api.OK)
	resolves(t, outside(), local6, 0, api.ErrStale)
	resolves(t, outside(), weak1, 1, api.OK)
}

// 20.2: all handles that there may be.
func TestResolveAll(t *testing.T) {
	w := worldtest.Of(envtest.FullHouse())
	for k := range uint64(64) {
		resolves(t, w, envtest.Word(api.Global, int(k), envtest.MaxGen), 64-k, api.OK)
		resolves(t, w, envtest.Word(api.Global, int(k), envtest.MaxGen-1), 0, api.ErrDeleted)
		resolves(t, w, envtest.Word(api.Weak, int(k), envtest.MaxGen), 65-k, api.OK)
	}
	for i := 0; i < 4096; i += 117 {
		resolves(t, w, envtest.Word(api.Local, i, i+1), uint64(i%64+1), api.OK)
		resolves(t, w, envtest.Word(api.Local, i, i+2), 0, api.ErrForged)
	}
	resolves(t, w, envtest.Word(api.Local, 4095, 4096), 64, api.OK)
}

// 20.2: Resolve is env.Resolve, with the thing of an object for its address.
func TestResolveAgrees(t *testing.T) {
	results := map[api.Errno]int{}
	for seed := range 400 {
		x := heaptest.Numbers(seed + 1)
		y := envtest.Irregular(&x)
		w := worldtest.Scattered(&x, y)
		for range 12 {
			v := envtest.SomeWord(&x, y)
			ref, want := env.Resolve(y, v)
			id, e := resolve(t, w, v)
			results[e]++
			if e != want || (id == 0) != (ref == 0) {
				t.Fatalf("Resolve of %d: %d, error %d, and in the environment %d, error %d, with %s", v, id, e, ref, want, show(w))
			}
			if hd, _ := object.Get(y.Heap, ref); id > 0 && w.Things[id-1].Header != hd {
				t.Fatalf("Resolve of %d: %d, with %s", v, id, show(w))
			}
		}
	}
	for _, e := range []api.Errno{api.OK, api.ErrForged, api.ErrStale, api.ErrDeleted} {
		if results[e] < 40 {
			t.Errorf("hardly any with error %d: %v", e, results)
		}
	}
}
