package env_test

import (
	"testing"

	"semispace/api"
	"semispace/env"
	"semispace/envtest"
	"semispace/heaptest"
)

// words is the header of an object with so many words.
func words(size int) api.Header { return api.Header{Kind: api.Words, Length: size - 1} }

// allocates allocates an object and checks all that this returns. It reports
// whether a collection was needed.
func allocates(t *testing.T, x api.Env, hd api.Header) (api.Env, uint64, bool, api.Errno) {
	t.Helper()
	want, r, full, e := allocated(x, hd)
	becomes(t, x, allocating(hd), want, r, e)
	return want, r.addr, full, e
}

// 18.4: with room, nothing but the heap changes, and no handle is cleared.
func TestAllocWithRoom(t *testing.T) {
	want := envtest.Narrow()
	want.Heap.Words[31], want.Heap.Pages[1].Used = 1+3<<2, 16
	becomes(t, envtest.Narrow(), allocating(words(1)), want, result{addr: 4127}, api.OK)
	if _, _, full, e := allocates(t, envtest.Narrow(), words(1)); full || e != api.OK {
		t.Errorf("%v, error %d", full, e)
	}
	for size := 1; size <= 32; size++ {
		for _, kind := range []int{api.Words, api.Refs} {
			out, addr, full, e := allocates(t, envtest.Empty(), api.Header{Kind: kind, Length: size - 1})
			if addr != 4096 || full || e != api.OK || len(strong(t, out)) > 0 {
				t.Errorf("%d words: %d, error %d", size, addr, e)
			}
		}
	}
}

// 18.4: without room, all roots are the new ones, and the handles of what is
// gone are cleared.
func TestAllocWithCollection(t *testing.T) {
	want := envtest.Narrow()
	want.Heap = envtest.Empty().Heap
	copy(want.Heap.Words[32:], []uint64{
		1 + 2<<2 + 2<<4, 4135, 0, // 4096
		1 + 3<<2 + 3<<4, 1, 2, 3, // 4115
		1 + 3<<2 + 2<<4, 8, 9, // 4112
		1 + 3<<2 + 2<<4, 0, 0, // the new one
	})
	want.Heap.Pages[2] = api.Page{Kind: api.SmallPage, Space: 1, Used: 13}
	want.Heap.Space, want.Heap.Bump = 1, 2
	want.Roots[0], want.Locals.Slots[1].Ref, want.Globals.Entries[0].Ref = 4128, 4131, 4135
	want.Weaks.Entries = []api.Entry{envtest.Live(1, 0), envtest.Live(2, 4128), envtest.Dead(1), envtest.Live(1, 0)}
	becomes(t, envtest.Narrow(), allocating(words(3)), want, result{addr: 4138}, api.OK)
	for _, size := range []int{2, 3, 4, 5, 16} {
		if _, _, full, e := allocates(t, envtest.Narrow(), words(size)); !full || e != api.OK {
			t.Errorf("%d words: %v, error %d", size, full, e)
		}
	}
}

// 18.4: pins are strong roots of the collection, too.
func TestAllocWithPins(t *testing.T) {
	x := envtest.Narrow()
	x.Pins = []api.Pin{{Ref: 4119, Count: 2}}
	x.Heap = heaptest.WithPins(x.Heap, x.Pins...)
	out, addr, full, e := allocates(t, x, words(3))
	if addr != 4131 || !full || e != api.OK || out.Pins[0] != x.Pins[0] || out.Weaks.Entries[0] != envtest.Live(1, 4119) {
		t.Errorf("%d, %v, error %d, %s", addr, full, e, show(out))
	}
	if out.Roots[0] != 4128 || out.Locals.Slots[1].Ref != 4115 || out.Globals.Entries[0].Ref != 4112 || out.Weaks.Entries[3] != envtest.Live(1, 0) {
		t.Errorf("%s", show(out))
	}
}

// all are the addresses of all objects of envtest.NarrowHeap.
func all() []uint64 { return []uint64{4096, 4099, 4112, 4115, 4119, 4123} }

// 18.4: no room after the collection, either.
func TestAllocWithoutRoom(t *testing.T) {
	x := envtest.With(envtest.NarrowHeap(), all()...)
	for size := 9; size <= 64; size++ {
		refuses(t, x, allocating(words(size)), api.ErrMemory)
	}
	refuses(t, envtest.Narrow(), allocating(words(17)), api.ErrMemory) // it would need two pages
	x, addr, full, e := allocates(t, x, words(4))
	if addr != 4152 || !full || e != api.OK { // behind the copies of the last two
		t.Fatalf("%d, %v, error %d", addr, full, e)
	}
	x.Roots = append(x.Roots, addr)
	x, addr, full, e = allocates(t, x, words(4))
	if addr != 4156 || full || e != api.OK {
		t.Fatalf("%d, %v, error %d", addr, full, e)
	}
	x.Roots = append(x.Roots, addr)
	refuses(t, x, allocating(words(4)), api.ErrMemory)
	x.Roots = x.Roots[1:]
	if _, _, full, e = allocates(t, x, words(3)); !full || e != api.OK {
		t.Fatalf("%v, error %d", full, e)
	}
}

// 18.4: a heap that the calls of the system do not make, in which the collection
// has no room.
func TestAllocWithFailingCollection(t *testing.T) {
	for n := range 2 {
		x := envtest.With(heaptest.WithPins(heaptest.Full(n).Heap()), 4096, 4100, 4104, 4108, 4112, 4116)
		refuses(t, x, allocating(words(2)), api.ErrMemory)
		refuses(t, x, allocating(words(65)), api.ErrArg)
	}
}

// wrong are headers that cannot be asked for in a heap of heaptest.Conf.
func wrong() []api.Header {
	return []api.Header{
		{}, {Length: 3}, {Kind: -1, Length: 1}, {Kind: 4, Length: 1}, {Kind: api.Words, Length: -1}, {Kind: api.Words, Length: 256},
		{Kind: api.Record, Length: 33}, {Kind: api.Record, Length: 2, Map: 4}, {Kind: api.Refs, Length: 2, Map: 1}, {Kind: api.Words, Length: 2, Map: 3},
		words(65), {Kind: api.Refs, Length: 64}, {Kind: api.Words, Length: 255},
	}
}

// 18.4: headers that cannot be asked for, with room, after a collection and
// without any room; and the greatest ones that can.
func TestAllocErrors(t *testing.T) {
	for _, x := range []api.Env{envtest.Empty(), envtest.Narrow(), envtest.With(envtest.NarrowHeap(), all()...), envtest.Ordinary()} {
		for _, hd := range wrong() {
			refuses(t, x, allocating(hd), api.ErrArg)
		}
		x.Roots = append(x.Roots, 4097)
		for _, hd := range append(wrong(), words(2), words(64)) {
			refuses(t, x, allocating(hd), api.ErrCorrupt)
		}
	}
	x, _ := env.New(api.Conf{PageWords: 16, Pages: 16})
	for _, hd := range []api.Header{words(64), {Kind: api.Refs, Length: 63}, {Kind: api.Record, Length: 32, Map: 1<<32 - 1}} {
		if _, addr, _, e := allocates(t, x, hd); addr != 4096 || e != api.OK {
			t.Errorf("%v: %d, error %d", hd, addr, e)
		}
	}
	refuses(t, x, allocating(words(65)), api.ErrArg)
	x, _ = env.New(heaptest.Wide)
	if _, addr, _, e := allocates(t, x, words(256)); addr != 4096 || e != api.OK {
		t.Errorf("%d, error %d", addr, e)
	}
	refuses(t, x, allocating(words(257)), api.ErrArg)
}

// 18.4: irregular environments; hardly one has room.
func TestAllocIrregular(t *testing.T) {
	for seed := range 300 {
		x := heaptest.Numbers(seed + 1)
		y := envtest.Irregular(&x)
		allocates(t, y, api.Header{Kind: 1 + x.Below(3), Length: x.Below(60)})
	}
}
