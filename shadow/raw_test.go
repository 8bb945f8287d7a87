package shadow_test

import (
	"testing"

	"semispace/api"
	"semispace/env"
	"semispace/envtest"
	"semispace/heaptest"
	"semispace/pin"
	"semispace/rules"
	"semispace/worldtest"
)

// accesses checks what Load and Store do at an address, where a thing has a
// field, if there is no error. Everything can be stored.
func accesses(t *testing.T, w rules.World, addr, id uint64, i int, want api.Errno) {
	t.Helper()
	v, e := load(t, w, addr)
	if e != want || e != api.OK && v != 0 || e == api.OK && v != w.Things[id-1].Fields[i] {
		t.Fatalf("Load of %d: %d, error %d, want field %d of %d, error %d, with %s", addr, v, e, i, id, want, show(w))
	}
	for _, v := range []uint64{0, 1, 14, addr, huge} {
		out, _, e := after(t, w, storing(addr, v))
		if e != want {
			t.Fatalf("Store at %d: error %d, want %d, with %s", addr, e, want, show(w))
		}
		if e != api.OK {
			continue
		}
		if stored := worldtest.Changed(w, func(w *rules.World) { w.Things[id-1].Fields[i] = v }); !worldtest.Same(out, stored) {
			t.Fatalf("%s\nbecomes, by a Store at %d, %s, want\n%s", show(w), addr, show(out), show(stored))
		}
		if again, e := load(t, out, addr); again != v || e != api.OK {
			t.Fatalf("Load of %d: %d, error %d, want %d, with %s", addr, again, e, v, show(out))
		}
	}
}

// 21.3: each address in front of, in and behind the extents of marked things.
func TestRaw(t *testing.T) {
	w := worldtest.Changed(worldtest.Ordinary(), func(w *rules.World) {
		w.Marks = append(w.Marks, rules.Mark{Id: 1, Count: 1, Base: 100}, rules.Mark{Id: 4, Count: 1000, Base: 300})
	})
	for _, addr := range []uint64{0, 1, 99, 103, 299, 300, 301, 4147, 4150, 4152, 4192, 4208, 1<<32 + 101, 1<<63 + 4148, huge} {
		accesses(t, w, addr, 0, 0, api.ErrExtent)
	}
	accesses(t, w, 4148, 9, 0, api.OK)
	accesses(t, w, 4149, 9, 1, api.OK)
	accesses(t, w, 4151, 0, 0, api.ErrPointer)
	for i := range 15 {
		accesses(t, w, 4193+uint64(i), 13, i, api.OK)
	}
	accesses(t, w, 100, 0, 0, api.ErrPointer)
	accesses(t, w, 101, 1, 1, api.OK)
	accesses(t, w, 102, 0, 0, api.ErrPointer)
	for _, addr := range []uint64{0, 4096, 4097, 4148, huge} {
		accesses(t, unmarked(), addr, 0, 0, api.ErrExtent)
		accesses(t, worldtest.Empty(), addr, 0, 0, api.ErrExtent)
	}
}

// 21.3: addresses of several marks, of which the first one counts, and the last
// addresses that there are.
func TestRawMarks(t *testing.T) {
	w := worldtest.Changed(worldtest.Ordinary(), func(w *rules.World) {
		w.Marks = []rules.Mark{{Id: 9, Count: 1, Base: 51}, {Id: 1, Count: 1, Base: 50}, {Id: 13, Count: 1, Base: 45}, {Id: 8, Count: 1, Base: huge}}
	})
	accesses(t, w, 49, 13, 4, api.OK)
	accesses(t, w, 50, 0, 0, api.ErrPointer)
	accesses(t, w, 51, 9, 0, api.OK)
	accesses(t, w, 52, 9, 1, api.OK)
	accesses(t, w, 53, 13, 8, api.OK)
	accesses(t, w, 59, 13, 14, api.OK)
	accesses(t, w, 60, 0, 0, api.ErrExtent)
	accesses(t, w, huge, 8, 0, api.OK)
	accesses(t, w, 0, 0, 0, api.ErrExtent)
	wide := worldtest.Changed(worldtest.Empty(), func(w *rules.World) {
		w.Things = []rules.Thing{worldtest.Words(make([]uint64, 255)...)}
		w.Marks = []rules.Mark{{Id: 1, Count: 1, Base: 4097}}
	})
	accesses(t, wide, 4096, 0, 0, api.ErrExtent)
	accesses(t, wide, 4097, 1, 0, api.OK)
	accesses(t, wide, 4351, 1, 254, api.OK)
	accesses(t, wide, 4352, 0, 0, api.ErrExtent)
}

// 21.3: a world that is not valid comes first.
func TestRawCorrupt(t *testing.T) {
	for _, w := range worldtest.Corrupt() {
		for _, addr := range []uint64{0, 4148, 4151, 4193, 4208} {
			accesses(t, w, addr, 0, 0, api.ErrCorrupt)
		}
	}
}

// 21.3: irregular worlds, by what rules say of an address.
func TestRawIrregular(t *testing.T) {
	found := map[api.Errno]int{}
	for seed := range 500 {
		n := heaptest.Numbers(seed + 1)
		w := worldtest.Irregular(&n)
		for range 4 {
			addr := uint64(n.Below(40)) - 12
			if len(w.Marks) > 0 && n.Below(2) == 0 {
				addr = w.Marks[n.Below(len(w.Marks))].Base + uint64(n.Below(6)) - 2
			}
			id, i, _ := rules.Extent(w, addr)
			e := rules.Access(w, addr)
			found[e]++
			accesses(t, w, addr, id, i, e)
		}
	}
	if min(found[api.OK], found[api.ErrExtent], found[api.ErrPointer]) < 60 {
		t.Errorf("hardly any of one kind: %v", found)
	}
}

// 21.3: in the model of an environment, raw accesses do what they do there.
func TestRawAgrees(t *testing.T) {
	found := map[api.Errno]int{}
	for seed := range 60 {
		n := heaptest.Numbers(seed + 1)
		x := envtest.Irregular(&n)
		w := worldtest.Scattered(&n, x)
		for range 60 {
			addr := 4090 + uint64(n.Below(len(x.Heap.Words)+12))
			v, e := pin.Load(x.Heap, x.Pins, addr)
			if u, f := load(t, w, addr); u != v || e != f {
				t.Fatalf("Load of %d: %d, error %d, and in the environment %d, error %d, with %s", addr, u, f, v, e, show(w))
			}
			found[e]++
			v = uint64(n.Below(9000))
			h, e := pin.Store(x.Heap, x.Pins, addr, v)
			out, _, f := after(t, w, storing(addr, v))
			if e != f {
				t.Fatalf("Store at %d: error %d, and in the environment %d, with %s", addr, f, e, show(w))
			}
			if e == api.OK {
				x.Heap, w = h, out
			}
		}
		if !env.Valid(x) {
			t.Fatalf("seed %d: the environment is not valid", seed)
		}
	}
	if min(found[api.OK], found[api.ErrExtent], found[api.ErrPointer]) < 40 {
		t.Errorf("hardly any of one kind: %v", found)
	}
}
