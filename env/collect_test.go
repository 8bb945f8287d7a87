package env_test

import (
	"slices"
	"testing"

	"semispace/api"
	"semispace/envtest"
	"semispace/graph"
	"semispace/heaptest"
	"semispace/page"
	"semispace/walk"
)

// collects does a collection and checks all that it returns.
func collects(t *testing.T, x api.Env) (api.Env, api.Report, api.Errno) {
	t.Helper()
	want, r, e := collected(x)
	becomes(t, x, collecting, want, r, e)
	if e == api.OK {
		keepsGraph(t, x, want)
		keepsOnly(t, want)
	}
	return want, r.report, e
}

// keepsGraph checks that the graph of the strong roots of two environments is
// the same.
func keepsGraph(t *testing.T, x, y api.Env) {
	t.Helper()
	a, e := graph.Of(x.Heap, strongOf(x))
	b, f := graph.Of(y.Heap, strongOf(y))
	if e != api.OK || f != api.OK || !graph.Same(a, b) {
		t.Fatalf("the graphs of %s\nand %s are different, errors %d and %d", show(x), show(y), e, f)
	}
}

// keepsOnly checks that all objects of an environment are strongly reachable,
// and those of weak handles too.
func keepsOnly(t *testing.T, x api.Env) {
	t.Helper()
	objects, e := walk.Objects(x.Heap)
	order, f := graph.Order(x.Heap, strongOf(x))
	if e != api.OK || f != api.OK || len(objects) != len(order) {
		t.Fatalf("%d of %d objects can be reached, errors %d and %d", len(order), len(objects), f, e)
	}
	for _, ref := range weakOf(x) {
		if ref != 0 && !slices.Contains(order, ref) {
			t.Fatalf("a weak handle has the object at %d, which cannot be reached", ref)
		}
	}
}

// collectedOrdinary is envtest.Ordinary after a collection: the copies of what
// was at 4096, 4106, 4179, 4104, 4102 and 4176 are on page 4, in this order.
func collectedOrdinary() api.Env {
	x := envtest.Ordinary()
	at := map[uint64]uint64{4096: 4160, 4106: 4164, 4179: 4168, 4104: 4170, 4102: 4171, 4176: 4173}
	for old, ref := range at { // the fields of all that stays
		for _, i := range []int{17, 18, 19, 20, 21, 35, 50, 55} {
			if envtest.Ordinary().Heap.Words[i] == old {
				x.Heap.Words[i] = ref
			}
		}
	}
	clear(x.Heap.Words[:16])
	clear(x.Heap.Words[80:96])
	copy(x.Heap.Words[64:80], []uint64{
		1 + 1<<2 + 3<<4 + 5<<16, 4171, 4102, 4160, // field 1 only looks like a pointer
		1 + 2<<2 + 3<<4, 0, 4144, 0,
		1 + 2<<2 + 1<<4, 4173,
		1 + 2<<2,
		1 + 3<<2 + 1<<4, 4096,
		1 + 2<<2 + 2<<4, 4168, 4192,
	})
	x.Heap.Pages[0], x.Heap.Pages[5] = api.Page{}, api.Page{}
	x.Heap.Pages[4] = api.Page{Kind: api.SmallPage, Space: 1, Used: 16}
	for _, i := range []int{1, 2, 3, 6} {
		x.Heap.Pages[i].Space = 1
	}
	x.Heap.Space, x.Heap.Bump = 1, 4
	x.Roots = []uint64{4160, 0, 4144, 4160}
	x.Locals = envtest.Locals(4164, 4168, 4112, 4164)
	x.Globals.Entries = []api.Entry{envtest.Dead(4), envtest.Live(1, 4147), envtest.Dead(envtest.MaxGen), envtest.Live(7, 4170)}
	x.Weaks.Entries = []api.Entry{envtest.Live(1, 0), envtest.Live(2, 4160), envtest.Dead(1), envtest.Live(3, 0), envtest.Live(envtest.MaxGen, 4171), envtest.Live(1, 4112), envtest.Live(5, 0)}
	return x
}

// 18.3: all that a collection changes, and what it does not.
func TestCollect(t *testing.T) {
	want := result{report: api.Report{Copied: 6, Kept: 5, Freed: 2, Cleared: 2, Steps: 40}}
	becomes(t, envtest.Ordinary(), collecting, collectedOrdinary(), want, api.OK)
	collects(t, envtest.Ordinary())
	collects(t, collectedOrdinary())
}

// 18.3: each kind of root alone keeps an object and what it refers to, and has
// the new address; a weak handle does not keep it.
func TestEachKindOfRoot(t *testing.T) {
	h := heaptest.WithPins(heaptest.Ordinary(0).Heap())
	local := api.Locals{
		Slots: []api.Slot{{Stamp: 1, Ref: 4179, Live: true}}, Scopes: []api.Scope{{Cap: 1, Base: true}}, Issued: []int{0},
	}
	table := api.Table{Entries: []api.Entry{envtest.Live(1, 4179)}}
	pins := []api.Pin{{Ref: 4179, Count: 2}}
	for k, x := range []api.Env{
		{Heap: h, Roots: []uint64{4179}}, {Heap: h, Locals: local}, {Heap: h, Globals: table}, {Heap: heaptest.WithPins(h, pins...), Pins: pins},
	} {
		ref := uint64(4160) // in front of the copy of the object at 4176, which it refers to
		if k == 3 {
			ref = 4179
		}
		out, r, e := collects(t, x)
		if l := strong(t, out); !slices.Equal(l, []uint64{ref}) || r.Copied+r.Kept != 3 || e != api.OK {
			t.Errorf("%d: %v, %v, error %d", k, l, r, e)
		}
		x.Weaks = api.Table{Entries: []api.Entry{envtest.Live(1, 4179), envtest.Live(1, 4112), envtest.Live(1, 4192), envtest.Live(1, 4176)}}
		out, r, e = collects(t, x)
		if l := weakOf(out); l[0] != ref || l[1] != 0 || l[2] != 4192 || l[3] == 0 || r.Cleared != 1 || e != api.OK {
			t.Errorf("%d: weak handles of %v, %v, error %d", k, l, r, e)
		}
	}
	x := api.Env{Heap: h, Weaks: table}
	if out, r, e := collects(t, x); out.Weaks.Entries[0] != envtest.Live(1, 0) || r.Cleared != 1 || r.Copied+r.Kept > 0 || e != api.OK {
		t.Errorf("only a weak handle: %v, %v, error %d", out.Weaks, r, e)
	}
}

// 18.3: a weak handle that has been cleared stays Live, and null, whatever comes
// to the place where its object was.
func TestClearedStays(t *testing.T) {
	x := envtest.Ordinary()
	for range 4 {
		out, r := done(t, x, collecting)
		if out.Weaks.Entries[0] != envtest.Live(1, 0) || out.Weaks.Entries[3] != envtest.Live(3, 0) {
			t.Fatalf("%v", out.Weaks)
		}
		if again := x.Weaks.Entries[0].Ref == 0; again != (r.report.Cleared == 0) {
			t.Fatalf("%v", r)
		}
		x = out
	}
}

// 18.3: the environment without anything, and those next to the limits.
func TestCollectLimits(t *testing.T) {
	want := envtest.Empty()
	want.Heap.Space = 1
	becomes(t, envtest.Empty(), collecting, want, result{}, api.OK)
	for k, x := range envtest.Allowed() {
		if _, _, e := collects(t, x); e != api.OK {
			t.Errorf("%d: error %d", k, e)
		}
	}
}

// 18.3: a heap that the calls of the system do not make may have no room for the
// copies. If the environment is not valid either, this comes first.
func TestCollectWithoutRoom(t *testing.T) {
	for n := range 3 {
		h := heaptest.WithPins(heaptest.Full(n).Heap())
		x := envtest.With(h, 4096, 4100, 4104, 4108, 4112, 4116)
		want := []api.Errno{api.ErrMemory, api.ErrMemory, api.OK}[n]
		if _, _, e := collects(t, x); e != want {
			t.Errorf("%d free pages: error %d, want %d", n, e, want)
		}
		x.Roots = append(x.Roots, 4097)
		refuses(t, x, collecting, api.ErrCorrupt)
	}
}

// 18.3: irregular environments, with one collection after another.
func TestCollectIrregular(t *testing.T) {
	results := map[api.Errno]int{}
	for seed := range 400 {
		x := heaptest.Numbers(seed + 1)
		y := envtest.Irregular(&x)
		for range 3 {
			out, _, e := collects(t, y)
			results[e]++
			if e != api.OK {
				break
			}
			y = out
		}
	}
	if results[api.OK] < 300 || results[api.ErrMemory] < 30 {
		t.Errorf("hardly any of one kind: %v", results)
	}
}

// 18.1 and 18.3: what page.New makes can be collected in all configurations.
func TestCollectNew(t *testing.T) {
	for words := 16; words <= 64; words += 4 {
		for pages := 8; pages <= 64; pages++ {
			h, _ := page.New(api.Conf{PageWords: words, Pages: pages})
			if _, _, e := collects(t, envtest.With(h, 0, 0)); e != api.OK {
				t.Errorf("%d words, %d pages: error %d", words, pages, e)
			}
		}
	}
}
