package shadow_test

import (
	"math"
	"testing"

	"semispace/api"
	"semispace/boundary"
	"semispace/envtest"
	"semispace/heaptest"
	"semispace/rules"
	"semispace/shadow"
	"semispace/worldtest"
)

// facts are all kinds of facts.
func facts() []shadow.Fact {
	var l []shadow.Fact
	for k := range 4 {
		l = append(l, shadow.Fact{Failed: k&1 > 0, Collected: k&2 > 0}, shadow.Fact{Failed: k&1 > 0, Collected: k&2 > 0, Base: 4113})
	}
	return l
}

// 21.2: a world that is not valid comes first, whatever else is wrong.
func TestCorrupt(t *testing.T) {
	words := []uint64{0, local(6), global(9), weak(1), weak(0), 4, huge}
	for k, w := range worldtest.Corrupt() {
		for op := -1; op <= 22; op++ {
			refuses(t, w, request{op, words[(k+op+1)%len(words)], uint64(k % 5), words[k%len(words)], facts()[k%8]}, api.ErrCorrupt)
		}
	}
}

// 21.2: numbers that are those of no call.
func TestNoCall(t *testing.T) {
	for _, w := range []rules.World{roomy(), worldtest.Empty(), outside()} {
		for _, op := range []int{math.MinInt, -20, -1, 0, 21, 22, 40, 255, 256 + 4, math.MaxInt32, math.MaxInt} {
			for _, f := range facts() {
				refuses(t, w, request{op, local(6), 1, 1, f}, api.ErrArg)
				refuses(t, w, request{op, 4, huge, 4, f}, api.ErrArg)
			}
		}
	}
}

// 21.2: the errors of calls, with all facts, and with several errors at once. An
// error of the real system comes last, and only where there is one.
func TestErrors(t *testing.T) {
	full := worldtest.Changed(unmarked(), func(w *rules.World) { w.Locals.Scopes[2].Cap = 2 })
	for _, y := range []struct {
		w       rules.World
		op      int
		a, b, c uint64
		want    api.Errno
	}{
		{worldtest.Empty(), boundary.NewWords, 3, 0, 0, api.ErrScope},
		{roomy(), boundary.NewRefs, 300, 0, 0, api.ErrCritical}, {unmarked(), boundary.NewRefs, 64, 0, 0, api.ErrArg},
		{unmarked(), boundary.NewRecord, 2, 4, 0, api.ErrArg}, {unmarked(), boundary.NewRecord, 32, 1 << 32, 0, api.ErrArg},
		{unmarked(), boundary.NewWords, 1 << 32, 0, 0, api.ErrArg}, {full, boundary.NewWords, 3, 0, 0, api.ErrCapacity},
		{roomy(), boundary.Length, 0, 0, 0, api.ErrNull}, {roomy(), boundary.Kind, weak(0), 0, 0, api.ErrNull}, {roomy(), boundary.Length, 4, 0, 0, api.ErrForged},
		{roomy(), boundary.GetWord, weak(1), 3, 0, api.ErrRange}, {roomy(), boundary.GetWord, weak(1), 2, 0, api.ErrKind},
		{roomy(), boundary.SetWord, global(9), huge, 0, api.ErrRange}, {roomy(), boundary.SetWord, local(6), 0, 1, api.ErrKind},
		{full, boundary.GetRef, weak(1), 0, 0, api.ErrCapacity}, {roomy(), boundary.GetRef, weak(1), 1, 0, api.ErrKind}, {outside(), boundary.GetRef, weak(1), 0, 0, api.ErrScope},
		{roomy(), boundary.SetRef, weak(1), 3, 4, api.ErrRange}, {roomy(), boundary.SetRef, weak(1), 1, 4, api.ErrKind}, {roomy(), boundary.SetRef, weak(1), 0, 4, api.ErrForged},
		{roomy(), boundary.Same, local(6), 4, 0, api.ErrForged}, {outside(), boundary.Same, local(6), 4, 0, api.ErrStale},
		{full, boundary.NewLocal, weak(1), 0, 0, api.ErrCapacity}, {roomy(), boundary.NewGlobal, 0, 0, 0, api.ErrNull}, {roomy(), boundary.NewWeak, weak(0), 0, 0, api.ErrNull},
		{roomy(), boundary.DeleteLocal, 0, 0, 0, api.ErrNull}, {roomy(), boundary.DeleteLocal, global(9), 0, 0, api.ErrKind},
		{roomy(), boundary.DeleteGlobal, envtest.Word(api.Global, 0, 4), 0, 0, api.ErrDeleted}, {roomy(), boundary.DeleteWeak, local(6), 0, 0, api.ErrKind},
		{outside(), boundary.PushScope, 65, 0, 0, api.ErrArg}, {outside(), boundary.PushScope, 64, 0, 0, api.ErrScope},
		{outside(), boundary.PopScope, 0, 0, 0, api.ErrScope}, {outside(), boundary.PopScope, 4, 0, 0, api.ErrForged},
		{roomy(), boundary.GetCritical, 0, 0, 0, api.ErrNull}, {roomy(), boundary.GetCritical, 4, 0, 0, api.ErrForged},
		{roomy(), boundary.Release, weak(1), 0, 0, api.ErrUnpinned}, {roomy(), boundary.Release, weak(0), 0, 0, api.ErrNull},
	} {
		for _, f := range facts() {
			refuses(t, y.w, request{y.op, y.a, y.b, y.c, f}, y.want)
		}
	}
}

// 21.2: what the real system has failed in fails, whatever else the fact says,
// and nothing else does.
func TestFailed(t *testing.T) {
	for op := 1; op <= 20; op++ {
		for _, f := range facts() {
			w, r := roomy(), request{op, global(9), 1, global(4), f}
			switch op {
			case boundary.NewRecord, boundary.NewRefs, boundary.NewWords, boundary.PushScope:
				w, r.a = unmarked(), 2
			case boundary.GetRef, boundary.SetRef:
				r.a = local(6)
			case boundary.Same:
				r.b = global(4)
			case boundary.DeleteLocal:
				r.a = local(6)
			case boundary.DeleteWeak:
				r.a = weak(1)
			}
			want := api.OK
			if f.Failed && op <= boundary.NewWords {
				want = api.ErrMemory
			}
			if f.Failed && op == boundary.GetCritical {
				want = api.ErrFull
			}
			refuses(t, w, r, want)
		}
	}
}

// 21.2: with everything at its limit.
func TestFullHouse(t *testing.T) {
	w := worldtest.Of(envtest.FullHouse())
	h, last := envtest.Word(api.Local, 4095, 4096), envtest.Word(api.Weak, 0, envtest.MaxGen) // of thing 64, and of 65, without a mark
	for _, f := range facts() {
		becomes(t, w, request{boundary.SetRef, h, 0, last, f}, 0, func(w *rules.World) { w.Things[63].Fields[0] = 65 })
		becomes(t, w, request{boundary.DeleteLocal, h, 0, 0, f}, 0, func(w *rules.World) { w.Locals.Slots[4095] = api.Slot{Stamp: 4096} })
		refuses(t, w, request{boundary.GetCritical, h, 0, 0, f}, api.ErrFull)
		refuses(t, w, request{boundary.GetCritical, last, 0, 0, f}, api.ErrFull)
		less := becomes(t, w, request{boundary.Release, h, 0, 0, f}, 0, func(w *rules.World) { w.Marks[63].Count = 999 })
		if !f.Failed {
			becomes(t, less, request{boundary.GetCritical, h, 0, 0, f}, w.Marks[63].Base, func(v *rules.World) { v.Marks[63].Count = 1000 })
		}
		for _, op := range []int{boundary.NewGlobal, boundary.NewWeak} {
			refuses(t, w, request{op, h, 0, 0, f}, api.ErrFull)
		}
	}
	for _, tag := range []int{api.Global, api.Weak} {
		first := envtest.Word(tag, 0, envtest.MaxGen)
		remove, table := boundary.DeleteGlobal, func(w *rules.World) *api.Table { return &w.Globals }
		if tag == api.Weak {
			remove, table = boundary.DeleteWeak, func(w *rules.World) *api.Table { return &w.Weaks }
		}
		v := becomes(t, w, request{op: remove, a: first}, 0, func(w *rules.World) { table(w).Entries[0] = envtest.Dead(envtest.MaxGen) })
		refuses(t, v, request{op: remove - 1, a: h}, api.ErrFull) // its generations are used up
	}
}

// someFact returns any fact.
func someFact(n *heaptest.Numbers) shadow.Fact {
	return shadow.Fact{Failed: n.Below(6) == 0, Collected: n.Below(2) == 0, Base: uint64(n.Below(60)) - 10}
}

// 21.2: calls one after the other in irregular worlds, with irregular facts.
func TestIrregular(t *testing.T) {
	count := envtest.Counts{}
	for seed := range 1200 {
		n := heaptest.Numbers(seed + 1)
		w := worldtest.Irregular(&n)
		if seed%3 == 0 {
			w = rules.World{Conf: w.Conf, Locals: api.Locals{Scopes: []api.Scope{{Cap: 8, Base: true}}}}
		}
		for range 16 {
			op, a, b, c := worldtest.SomeCall(&n, w)
			r := request{op, a, b, c, someFact(&n)}
			out, _, e := calls(t, w, r)
			count.Call(op, e)
			if e == api.OK {
				w = out
			}
		}
	}
	often(t, count, 10, envtest.Errors()...)
	often(t, count, 40, envtest.Calls(1)...)
}

// R1: no call panics, in worlds that are as strange as can be.
func TestStrangeWorlds(t *testing.T) {
	results := map[bool]int{}
	for seed := range 1500 {
		n := heaptest.Numbers(seed + 1)
		w := worldtest.Irregular(&n)
		for range n.Below(4) {
			worldtest.Spoil(&n, &w)
		}
		ok := rules.Valid(w)
		results[ok]++
		op, a, b, c := n.Below(30)-4, envtest.Word(n.Below(4), n.Below(8), n.Below(8)), uint64(n.Below(9)), envtest.Word(n.Below(4), n.Below(8), n.Below(8))
		_, _, e := calls(t, w, request{op, a, b, c, someFact(&n)})
		_, _, f := after(t, w, collecting)
		addr := uint64(n.Below(40)) - 10
		_, g := load(t, w, addr)
		_, _, h := after(t, w, storing(addr, 7))
		if (e == api.ErrCorrupt) == ok || (f == api.OK) != ok || (g == api.ErrCorrupt) == ok || g != h || (reached(t, w) == nil) == (ok && len(w.Things) > 0) {
			t.Fatalf("errors %d, %d, %d, %d, with %s", e, f, g, h, show(w))
		}
	}
	if min(results[true], results[false]) < 300 {
		t.Errorf("hardly any of one kind: %v", results)
	}
}
