package rules_test

import (
	"testing"

	"semispace/api"
	"semispace/env"
	"semispace/envtest"
	"semispace/header"
	"semispace/heaptest"
	"semispace/page"
	"semispace/rules"
	"semispace/scope"
	"semispace/slots"
	"semispace/worldtest"
)

// valid is rules.Valid of a world that must stay as it is.
func valid(t *testing.T, w rules.World) bool {
	t.Helper()
	given, check := guard(t, w)
	ok := rules.Valid(given)
	check()
	return ok
}

// isValid is Valid, sentence by sentence.
func isValid(w rules.World) bool {
	if !page.ValidConf(w.Conf) || !scope.Valid(w.Locals) || !slots.Valid(w.Globals) || !slots.Valid(w.Weaks) {
		return false
	}
	ids := append([]uint64{}, w.Roots...)
	for _, y := range w.Things {
		if !header.Valid(y.Header) || y.Header.Kind == 0 || len(y.Fields) != y.Header.Length {
			return false
		}
		for _, i := range worldtest.Pointers(y) {
			ids = append(ids, y.Fields[i])
		}
	}
	for _, s := range w.Locals.Slots {
		ids = append(ids, s.Ref)
	}
	for _, y := range w.Globals.Entries {
		ids = append(ids, y.Ref)
		if y.Live && y.Ref == 0 {
			return false
		}
	}
	for _, y := range w.Weaks.Entries {
		ids = append(ids, y.Ref)
	}
	for _, id := range ids {
		if id > uint64(len(w.Things)) {
			return false
		}
	}
	marked := map[uint64]int{}
	for _, m := range w.Marks {
		marked[m.Id]++
		if m.Id < 1 || m.Id > uint64(len(w.Things)) || m.Count < 1 || m.Count > 1000 {
			return false
		}
	}
	return len(marked) == len(w.Marks) && len(marked) <= 64
}

// 20.1: written out.
func TestValid(t *testing.T) {
	for k, w := range worldtest.Corrupt() {
		if valid(t, w) || isValid(w) {
			t.Errorf("%d: it is valid: %s", k, show(w))
		}
	}
	for k, w := range worldtest.Allowed() {
		if !valid(t, w) || !isValid(w) {
			t.Errorf("%d: it is not valid: %s", k, show(w))
		}
	}
}

// 20.1: the configurations of heaps.
func TestConf(t *testing.T) {
	for words := -2; words < 80; words++ {
		for pages := -2; pages < 80; pages++ {
			w := rules.World{Conf: api.Conf{PageWords: words, Pages: pages}}
			if want := words >= 16 && words <= 64 && words%4 == 0 && pages >= 8 && pages <= 64; valid(t, w) != want {
				t.Errorf("%v: %v", w.Conf, !want)
			}
		}
	}
}

// 20.1: a mark of each thing, and a second one.
func TestMarks(t *testing.T) {
	full := worldtest.Of(envtest.FullHouse())
	for n := range 65 {
		w := worldtest.Changed(full, func(w *rules.World) { w.Marks = w.Marks[:n] })
		if !valid(t, w) {
			t.Errorf("with %d marks, it is not valid", n)
		}
		for k := range n {
			if v := worldtest.Changed(w, func(w *rules.World) { w.Marks[k].Id = w.Marks[(k+n/2)%n].Id }); valid(t, v) != (n == 1) {
				t.Errorf("%v", v.Marks)
			}
		}
	}
}

// 20.1: the models of environments are valid.
func TestModels(t *testing.T) {
	for seed := range 300 {
		x := heaptest.Numbers(seed + 1)
		y := envtest.Irregular(&x)
		if w := worldtest.Scattered(&x, y); !env.Valid(y) || !valid(t, w) {
			t.Fatalf("seed %d: %s", seed, show(w))
		}
	}
	if w := worldtest.Of(envtest.Ordinary()); !valid(t, w) {
		t.Errorf("%s", show(w))
	}
}

// 20.1, and ErrCorrupt of all other calls: irregular worlds, in which something
// has been changed or not. Nothing panics.
func TestValidIrregular(t *testing.T) {
	results := map[bool]int{}
	for seed := range 4000 {
		x := heaptest.Numbers(seed + 1)
		w := worldtest.Irregular(&x)
		for range x.Below(4) {
			worldtest.Spoil(&x, &w)
		}
		want := isValid(w)
		results[want]++
		if valid(t, w) != want {
			t.Fatalf("seed %d: %v, with %s", seed, !want, show(w))
		}
		r := request{x.Below(30) - 4, envtest.Word(x.Below(4), x.Below(8), x.Below(8)), uint64(x.Below(9)), envtest.Word(x.Below(4), x.Below(8), x.Below(8))}
		if e := verdict(t, w, r, x.Below(2) == 0); (e == api.ErrCorrupt) == want {
			t.Fatalf("seed %d: %v: error %d, with %s", seed, r, e, show(w))
		}
		if id, e := resolve(t, w, r.a); (e == api.ErrCorrupt) == want || e != api.OK && id != 0 {
			t.Fatalf("seed %d: Resolve of %d: %d, error %d, with %s", seed, r.a, id, e, show(w))
		}
		addr := 4096 + uint64(x.Below(len(w.Things)*4+1))
		if _, _, e := extent(t, w, addr); (e == api.ErrCorrupt) == want || access(t, w, addr) == api.OK && e != api.OK {
			t.Fatalf("seed %d: Extent of %d: error %d, with %s", seed, addr, e, show(w))
		}
	}
	if min(results[true], results[false]) < 1000 {
		t.Errorf("hardly any of one kind: %v", results)
	}
}

// R5, and 20.2 to 20.4: ErrCorrupt comes before all other errors, and it is
// there whenever a world is not valid.
func TestCorrupt(t *testing.T) {
	words := []uint64{0, local6, global9, weak1, cleared, deleted, stale, 4, huge}
	for k, w := range worldtest.Corrupt() {
		for op := -1; op <= 22; op++ {
			refuses(t, w, request{op, words[(k+op+1)%len(words)], uint64(k % 5), words[k%len(words)]}, api.ErrCorrupt)
		}
		for _, v := range append(words, 4148, 4149, 4097, 4151) {
			if id, e := resolve(t, w, v); id != 0 || e != api.ErrCorrupt {
				t.Errorf("Resolve of %d: %d, error %d, with %s", v, id, e, show(w))
			}
			finds(t, w, v, 0, 0, api.ErrCorrupt, api.ErrCorrupt)
		}
	}
}
