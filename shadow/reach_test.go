package shadow_test

import (
	"math"
	"slices"
	"testing"

	"semispace/api"
	"semispace/env"
	"semispace/envtest"
	"semispace/heaptest"
	"semispace/page"
	"semispace/rules"
	"semispace/shadow"
	"semispace/worldtest"
)

// 21.1: configurations that are valid, and those that are not.
func TestNew(t *testing.T) {
	for _, words := range []int{math.MinInt, -16, 0, 8, 12, 15, 16, 17, 18, 20, 32, 60, 63, 64, 65, 68, math.MaxInt} {
		for _, pages := range []int{math.MinInt, -8, 0, 7, 8, 9, 10, 63, 64, 65, math.MaxInt} {
			c := api.Conf{PageWords: words, Pages: pages}
			w, e := shadow.New(c)
			want, wantError := rules.World{Conf: c}, api.OK
			if !page.ValidConf(c) {
				want, wantError = rules.World{}, api.ErrArg
			}
			if e != wantError || !worldtest.Same(w, want) {
				t.Errorf("%v: error %d, %s", c, e, show(w))
			}
		}
	}
}

// reaches checks which things are reachable.
func reaches(t *testing.T, w rules.World, want ...uint64) {
	t.Helper()
	l := reached(t, w)
	if len(l) != len(w.Things) {
		t.Fatalf("%d things, %d of them reached or not, with %s", len(w.Things), len(l), show(w))
	}
	for k, ok := range l {
		if ok != slices.Contains(want, uint64(k+1)) {
			t.Errorf("thing %d: %v, with %s", k+1, ok, show(w))
		}
	}
}

// The examples of chapter 21.
func TestExamples(t *testing.T) {
	reaches(t, rules.World{Conf: heaptest.Conf, Things: []rules.Thing{worldtest.Words(1)}})
	if v, e := load(t, unmarked(), 4148); v != 0 || e != api.ErrExtent {
		t.Errorf("%d, error %d", v, e)
	}
}

// 21.1: what is reachable in the ordinary world, and by each kind of reference
// alone. Weak handles reach nothing, nor do words that are no pointers.
func TestReached(t *testing.T) {
	w := worldtest.Ordinary()
	reaches(t, w, 1, 3, 4, 6, 7, 8, 9, 10, 11, 12, 13)
	only := rules.World{Conf: w.Conf, Things: w.Things, Weaks: w.Weaks}
	reaches(t, only)
	for _, y := range []struct {
		change func(v *rules.World)
		want   []uint64
	}{
		{func(v *rules.World) { v.Roots = w.Roots }, []uint64{1, 3, 6, 8}},
		{func(v *rules.World) { v.Locals = w.Locals }, []uint64{1, 3, 6, 7, 8, 9, 11, 12, 13}},
		{func(v *rules.World) { v.Globals = w.Globals }, []uint64{4, 9}},
		{func(v *rules.World) { v.Marks = w.Marks }, []uint64{9, 10, 13}},
		{func(v *rules.World) { v.Roots = []uint64{0, 0} }, nil},
		{func(v *rules.World) { v.Roots = []uint64{12} }, []uint64{11, 12, 13}},
		{func(v *rules.World) { v.Roots = []uint64{2, 5, 5} }, []uint64{2, 5}},
		{func(v *rules.World) { v.Marks = []rules.Mark{{Id: 2, Count: 1, Base: 3}} }, []uint64{2}},
	} {
		reaches(t, worldtest.Changed(only, y.change), y.want...)
	}
	reaches(t, worldtest.Empty())
}

// 21.1: each handle, root or mark of one thing, which is the first or the last
// one, and of null.
func TestReferring(t *testing.T) {
	for _, id := range []uint64{1, 2, 5, 13} {
		for _, w := range slices.Concat(worldtest.Referring(id), worldtest.Referring(0), worldtest.Holding(id)) {
			if rules.Valid(w) {
				agrees(t, w)
			}
		}
	}
}

// agrees compares Reached and Collect with the model, and says how many things
// are reachable, and how many are not.
func agrees(t *testing.T, w rules.World) (in, out int) {
	t.Helper()
	l := reached(t, w)
	if want := reachedIn(w); !slices.Equal(l, want) {
		t.Fatalf("%v, want %v, with %s", l, want, show(w))
	}
	collected, _, e := after(t, w, collecting)
	if want := worldtest.Changed(w, func(w *rules.World) { w.Weaks.Entries = clearedIn(*w) }); e != api.OK || !worldtest.Same(collected, want) {
		t.Fatalf("%s\nbecomes %s, error %d, want\n%s", show(w), show(collected), e, show(want))
	}
	for _, ok := range l {
		if ok {
			in++
		}
	}
	return in, len(l) - in
}

// 21.1: worlds at their limits, in which the weak handles of what is not
// reachable have any generation.
func TestReachedAllowed(t *testing.T) {
	for _, w := range worldtest.Allowed() {
		agrees(t, w)
	}
}

// 21.1: irregular worlds.
func TestReachedIrregular(t *testing.T) {
	in, out, cleared := 0, 0, 0
	for seed := range 1500 {
		n := heaptest.Numbers(seed + 1)
		w := worldtest.Irregular(&n)
		i, o := agrees(t, w)
		in, out = in+i, out+o
		if !slices.Equal(clearedIn(w), w.Weaks.Entries) {
			cleared++
		}
	}
	if min(in, out) < 4000 || cleared < 300 {
		t.Errorf("hardly any of one kind: %d, %d, %d", in, out, cleared)
	}
}

// 21.1: in the model of an environment, a collection clears the weak handles
// that it clears there.
func TestCollectAgrees(t *testing.T) {
	cleared := 0
	for seed := range 400 {
		n := heaptest.Numbers(seed + 1)
		x := envtest.Irregular(&n)
		y, _, e := env.Collect(x)
		if e != api.OK {
			continue
		}
		w := worldtest.Scattered(&n, x)
		out, _, f := after(t, w, collecting)
		for i, z := range y.Weaks.Entries {
			isGone := z.Ref == 0 && x.Weaks.Entries[i].Ref != 0
			if want := w.Weaks.Entries[i].Ref; isGone {
				cleared++
				want = 0
				if out.Weaks.Entries[i] != (api.Entry{Gen: z.Gen, Live: true}) || f != api.OK {
					t.Fatalf("entry %d is %v, error %d, with %s", i, out.Weaks.Entries[i], f, show(w))
				}
			} else if out.Weaks.Entries[i].Ref != want {
				t.Fatalf("entry %d is %v, want %d, with %s", i, out.Weaks.Entries[i], want, show(w))
			}
		}
	}
	if cleared < 100 {
		t.Errorf("only %d weak handles are cleared", cleared)
	}
}

// 21.1: written out. What has no handle any more stays a thing.
func TestCollect(t *testing.T) {
	w := worldtest.Ordinary()
	out, _, e := after(t, w, collecting)
	want := worldtest.Changed(w, func(w *rules.World) { w.Weaks.Entries[0].Ref, w.Weaks.Entries[6].Ref = 0, 0 }) // of 5
	if e != api.OK || !worldtest.Same(out, want) {
		t.Errorf("%s, error %d", show(out), e)
	}
	if again, _, e := after(t, out, collecting); e != api.OK || !worldtest.Same(again, out) {
		t.Errorf("%s, error %d", show(again), e)
	}
	bare := worldtest.Changed(w, func(w *rules.World) {
		w.Roots, w.Locals, w.Globals, w.Marks = nil, api.Locals{}, api.Table{}, nil
	})
	out, _, e = after(t, bare, collecting)
	for i, y := range out.Weaks.Entries {
		if z := w.Weaks.Entries[i]; y.Ref != 0 || y.Gen != z.Gen || y.Live != z.Live {
			t.Errorf("%v, error %d", y, e)
		}
	}
}

// 21.1 and R2: a world that is not valid has no reachable things, and cannot be
// collected.
func TestReachedCorrupt(t *testing.T) {
	for _, w := range worldtest.Corrupt() {
		if l := reached(t, w); len(l) > 0 {
			t.Errorf("%v, with %s", l, show(w))
		}
		if _, _, e := after(t, w, collecting); e != api.ErrCorrupt {
			t.Errorf("error %d, with %s", e, show(w))
		}
	}
}

// listed is a world in which the only root is the first thing of a list of n. It
// is the last thing if back is true; all others come before the list.
func listed(n int, back bool, others ...rules.Thing) rules.World {
	w := rules.World{Conf: heaptest.Conf, Things: others}
	first, last := len(others)+1, len(others)+n
	for id := first; id <= last; id++ {
		next := id + 1
		if back {
			next = id - 1
		}
		if next < first || next > last {
			next = 0
		}
		w.Things = append(w.Things, worldtest.Record(2, 7, uint64(next)))
	}
	if back {
		first = last
	}
	w.Roots = []uint64{uint64(first)}
	return w
}

// 21.1: long lists in both directions. Things to which nothing refers are not
// reached, though they refer to others.
func TestLists(t *testing.T) {
	dead := worldtest.Refs(3, 1)
	for _, n := range []int{1, 2, 3, 5000} {
		for _, back := range []bool{false, true} {
			w := listed(n, back, dead, dead)
			if want := append(make([]bool, 2), slices.Repeat([]bool{true}, n)...); !slices.Equal(reached(t, w), want) {
				t.Errorf("%d, %v: not all of the list, or others", n, back)
			}
		}
	}
}

// 21.1: rings, and a thing with as many references as there can be.
func TestRings(t *testing.T) {
	w := rules.World{Conf: heaptest.Conf, Things: []rules.Thing{
		worldtest.Refs(3), worldtest.Refs(2), worldtest.Refs(5, 5), worldtest.Words(1), worldtest.Refs(0, 1), worldtest.Refs(1, 2, 6),
	}}
	for id, want := range map[uint64][]uint64{1: {1, 3, 5}, 2: {2}, 3: {1, 3, 5}, 4: {4}, 5: {1, 3, 5}, 6: {1, 2, 3, 5, 6}} {
		w.Roots = []uint64{id, id}
		reaches(t, w, want...)
	}
	wide := rules.World{Conf: heaptest.Wide, Roots: []uint64{256}}
	fields := make([]uint64, 255)
	for i := range fields {
		fields[i] = uint64(255 - i)
		wide.Things = append(wide.Things, worldtest.Words())
	}
	wide.Things = append(wide.Things, worldtest.Refs(fields...), worldtest.Words())
	if l := reached(t, wide); len(l) != 257 || slices.Index(l, false) != 256 {
		t.Errorf("%v", l)
	}
}

// R5: which things are reachable, and which weak handles are cleared, is the
// same each time.
func TestSameReached(t *testing.T) {
	n := heaptest.Numbers(9)
	for range 30 {
		w := worldtest.Irregular(&n)
		l := reached(t, w)
		out, _, _ := after(t, w, collecting)
		for range 10 {
			if again := reached(t, w); !slices.Equal(again, l) {
				t.Fatalf("%v, and then %v, with %s", l, again, show(w))
			}
			if again, _, _ := after(t, w, collecting); !worldtest.Same(again, out) {
				t.Fatalf("%s, and then %s, with %s", show(out), show(again), show(w))
			}
		}
	}
}
