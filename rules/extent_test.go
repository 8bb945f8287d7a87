package rules_test

import (
	"testing"

	"semispace/api"
	"semispace/env"
	"semispace/envtest"
	"semispace/heaptest"
	"semispace/pin"
	"semispace/rules"
	"semispace/worldtest"
)

// extent is rules.Extent of a world that must stay as it is.
func extent(t *testing.T, w rules.World, addr uint64) (uint64, int, api.Errno) {
	t.Helper()
	given, check := guard(t, w)
	id, i, e := rules.Extent(given, addr)
	check()
	return id, i, e
}

// access is rules.Access of a world that must stay as it is.
func access(t *testing.T, w rules.World, addr uint64) api.Errno {
	t.Helper()
	given, check := guard(t, w)
	e := rules.Access(given, addr)
	check()
	return e
}

// finds checks which field is at an address, and the errors of Extent and of
// Access.
func finds(t *testing.T, w rules.World, addr, wantId uint64, want int, wantError, wantAccess api.Errno) {
	t.Helper()
	if id, i, e := extent(t, w, addr); id != wantId || i != want || e != wantError {
		t.Errorf("Extent of %d: %d, %d, error %d, want %d, %d, error %d, with %s", addr, id, i, e, wantId, want, wantError, show(w))
	}
	if e := access(t, w, addr); e != wantAccess {
		t.Errorf("Access to %d: error %d, want %d, with %s", addr, e, wantAccess, show(w))
	}
}

// word, pointer and nothing are what can be at an address.
func word(t *testing.T, w rules.World, addr, id uint64, i int) {
	t.Helper()
	finds(t, w, addr, id, i, api.OK, api.OK)
}

func pointer(t *testing.T, w rules.World, addr, id uint64, i int) {
	t.Helper()
	finds(t, w, addr, id, i, api.OK, api.ErrPointer)
}

func nothing(t *testing.T, w rules.World, addrs ...uint64) {
	t.Helper()
	for _, addr := range addrs {
		finds(t, w, addr, 0, 0, api.ErrExtent, api.ErrExtent)
	}
}

// 20.4: the fields of marked things, and what is in front of and behind them.
func TestExtent(t *testing.T) {
	w := worldtest.Changed(worldtest.Ordinary(), func(w *rules.World) {
		w.Marks = append(w.Marks, rules.Mark{Id: 1, Count: 1, Base: 100}, rules.Mark{Id: 8, Count: 1000, Base: 200}, rules.Mark{Id: 4, Count: 1, Base: 300})
	})
	nothing(t, w, 0, 1, 99, 103, 104, 199, 202, 299, 300, 301, 4147, 4150, 4152, 4192, 4208, 1<<32+100, 1<<63+4148, huge)
	word(t, w, 4148, 9, 0)
	word(t, w, 4149, 9, 1)
	pointer(t, w, 4151, 10, 0)
	for i := range 15 {
		word(t, w, 4193+uint64(i), 13, i)
	}
	pointer(t, w, 100, 1, 0) // a Record
	word(t, w, 101, 1, 1)
	pointer(t, w, 102, 1, 2)
	word(t, w, 200, 8, 0)
	pointer(t, w, 201, 8, 1)
	nothing(t, outsideOf(w), 100, 4148, 4193)
	nothing(t, worldtest.Empty(), 0, 1, 4096, 4097, huge)
}

// outsideOf is a world without marks.
func outsideOf(w rules.World) rules.World {
	return worldtest.Changed(w, func(w *rules.World) { w.Marks = nil })
}

// based is worldtest.Ordinary with marks of these things only, each at its Base.
func based(marks ...rules.Mark) rules.World {
	return worldtest.Changed(worldtest.Ordinary(), func(w *rules.World) {
		w.Marks = nil
		for _, m := range marks {
			w.Marks = append(w.Marks, rules.Mark{Id: m.Id, Count: 1, Base: m.Base})
		}
	})
}

// 20.4: no field has an address that would not fit into 64 bits.
func TestLastAddresses(t *testing.T) {
	w := based(rules.Mark{Id: 1, Base: huge - 1})
	pointer(t, w, huge-1, 1, 0)
	word(t, w, huge, 1, 1)
	nothing(t, w, 0, 1, 2, huge-2)
	w = based(rules.Mark{Id: 9, Base: huge - 1}) // the last one is in front of 2^64
	word(t, w, huge-1, 9, 0)
	word(t, w, huge, 9, 1)
	nothing(t, w, 0, huge-2)
	w = based(rules.Mark{Id: 7, Base: huge})
	pointer(t, w, huge, 7, 0)
	nothing(t, w, 0, 1, 17, 18, huge-1)
	w = based(rules.Mark{Id: 4, Base: huge}, rules.Mark{Id: 9})
	word(t, w, 0, 9, 0)
	word(t, w, 1, 9, 1)
	nothing(t, w, 2, huge)
}

// 20.4: the first mark that has an address.
func TestFirstMark(t *testing.T) {
	w := based(rules.Mark{Id: 9, Base: 51}, rules.Mark{Id: 1, Base: 50}, rules.Mark{Id: 13, Base: 45}, rules.Mark{Id: 6, Base: 51})
	word(t, w, 49, 13, 4)
	pointer(t, w, 50, 1, 0)
	word(t, w, 51, 9, 0)
	word(t, w, 52, 9, 1)
	word(t, w, 53, 13, 8) // in front of the third field of 6
	nothing(t, w, 44, 60)
	w = based(rules.Mark{Id: 4, Base: 50}, rules.Mark{Id: 6, Base: 50}, rules.Mark{Id: 9, Base: 50})
	for i := range 3 {
		pointer(t, w, 50+uint64(i), 6, i) // 4 has no fields
	}
	nothing(t, w, 53)
}

// 20.4: the longest thing, and as many marks as there may be.
func TestManyMarks(t *testing.T) {
	w := based(rules.Mark{Id: 14, Base: 1000})
	w.Things = append(w.Things, worldtest.Refs(make([]uint64, 255)...))
	pointer(t, w, 1000, 14, 0)
	pointer(t, w, 1254, 14, 254)
	nothing(t, w, 999, 1255, 1256)
	full := worldtest.Of(envtest.FullHouse())
	for k := range uint64(65) {
		if k < 64 {
			pointer(t, full, 4097+2*k, k+1, 0)
		} else {
			nothing(t, full, 4097+2*k)
		}
		nothing(t, full, 4096+2*k)
	}
}

// 20.4: irregular worlds, from the sentence itself: the first mark with a field
// whose address is this one, without wrapping around.
func TestExtentIrregular(t *testing.T) {
	found := map[api.Errno]int{}
	for seed := range 1000 {
		x := heaptest.Numbers(seed + 1)
		w := worldtest.Irregular(&x)
		for range 8 {
			addr := uint64(x.Below(40)) - 12
			if len(w.Marks) > 0 && x.Below(2) == 0 {
				addr = w.Marks[x.Below(len(w.Marks))].Base + uint64(x.Below(6)) - 2
			}
			id, i, e, raw := fieldAt(w, addr)
			found[raw]++
			finds(t, w, addr, id, i, e, raw)
		}
	}
	if min(found[api.OK], found[api.ErrExtent], found[api.ErrPointer]) < 300 {
		t.Errorf("hardly any of one kind: %v", found)
	}
}

func fieldAt(w rules.World, addr uint64) (id uint64, i int, e, raw api.Errno) {
	for _, m := range w.Marks {
		y := w.Things[m.Id-1]
		for i, at := 0, m.Base; i < len(y.Fields); i, at = i+1, at+1 {
			if at == addr {
				for _, p := range worldtest.Pointers(y) {
					if p == i {
						return m.Id, i, api.OK, api.ErrPointer
					}
				}
				return m.Id, i, api.OK, api.OK
			}
			if at == huge {
				break
			}
		}
	}
	return 0, 0, api.ErrExtent, api.ErrExtent
}

// 20.4: in the model of an environment, the errors are those of raw accesses to
// its heap.
func TestAccessAgrees(t *testing.T) {
	found := map[api.Errno]int{}
	for seed := range 60 {
		x := heaptest.Numbers(seed + 1)
		y := envtest.Irregular(&x)
		if !env.Valid(y) {
			t.Fatalf("seed %d: the environment is not valid", seed)
		}
		w := worldtest.Scattered(&x, y)
		for range 80 {
			addr := 4090 + uint64(x.Below(len(y.Heap.Words)+12))
			_, i, e := pin.Find(y.Heap, y.Pins, addr)
			_, raw := pin.Load(y.Heap, y.Pins, addr)
			found[raw]++
			id, j, f := extent(t, w, addr)
			if e != f || i != j || raw != access(t, w, addr) {
				t.Fatalf("%d: %d, %d, error %d, and in the environment %d, error %d, with %s", addr, id, j, f, i, e, show(w))
			}
		}
	}
	if min(found[api.OK], found[api.ErrExtent], found[api.ErrPointer]) < 60 {
		t.Errorf("hardly any of one kind: %v", found)
	}
}
