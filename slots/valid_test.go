package slots_test

import (
	"math"
	"slices"
	"testing"

	"semispace/api"
	"semispace/heaptest"
	"semispace/slots"
)

// ordinary is a table of six entries, of which 1, 3 and 5 are not Live. Entry 4
// is a weak handle that has been cleared, and 3 cannot be used again.
func ordinary() api.Table {
	return tableOf(live(1, 4096), dead(3), live(maxGen, math.MaxUint64), dead(maxGen), live(2, 0), dead(1))
}

// allOf returns a table of n entries that are all the same.
func allOf(n int, x api.Entry) api.Table { return tableOf(slices.Repeat([]api.Entry{x}, n)...) }

// with returns a table in which an entry is replaced.
func with(a api.Table, index int, x api.Entry) api.Table {
	a = copied(a)
	a.Entries[index] = x
	return a
}

// more returns a table with others of these entries behind it.
func more(a api.Table, entries ...api.Entry) api.Table {
	return tableOf(slices.Concat(a.Entries, entries)...)
}

// invalid are tables that are not valid, most of them in one thing only.
func invalid() []api.Table {
	list := []api.Table{
		allOf(65, live(1, 4096)), allOf(65, dead(1)), allOf(5000, live(1, 4096)), entries(65),
		tableOf(dead(0)), tableOf(live(0, 0)), tableOf(live(0, 1)), tableOf(wrong(0, 1)), tableOf(wrong(1, 1)),
		more(ordinary(), dead(0)), more(ordinary(), live(1, 1), wrong(1, 7)),
		with(allOf(64, live(1, 4096)), 63, live(0, 4096)),
		with(allOf(64, live(1, 4096)), 63, wrong(1, 4096)),
	}
	for i, x := range ordinary().Entries {
		for _, gen := range []int{0, -1, -2, -maxGen, math.MinInt, maxGen + 1, maxGen + 2, math.MaxInt} {
			list = append(list, with(ordinary(), i, api.Entry{Gen: gen, Ref: x.Ref, Live: x.Live}))
		}
		for _, ref := range []uint64{1, 4096, math.MaxUint64} {
			list = append(list, with(ordinary(), i, wrong(x.Gen, ref)))
		}
	}
	return list
}

// entries is a table of n different entries.
func entries(n int) api.Table {
	var a api.Table
	for k := range n {
		a.Entries = append(a.Entries, api.Entry{Gen: k + 1, Live: k%2 == 0})
	}
	return a
}

// alsoValid are tables that are valid at the last value that is allowed, or
// strange.
func alsoValid() []api.Table {
	list := []api.Table{
		{}, {Entries: []api.Entry{}}, ordinary(), tableOf(dead(1)), tableOf(live(1, 0)),
		allOf(63, live(1, 4096)), allOf(64, live(1, 4096)), allOf(64, dead(1)), allOf(64, dead(maxGen)), entries(64),
	}
	for i, x := range ordinary().Entries {
		for _, gen := range []int{1, 2, 1 << 31, maxGen - 1, maxGen} {
			list = append(list, with(ordinary(), i, api.Entry{Gen: gen, Ref: x.Ref, Live: x.Live}))
		}
		for _, ref := range []uint64{0, 1, math.MaxUint64} {
			list = append(list, with(ordinary(), i, live(x.Gen, ref)))
		}
		list = append(list, with(ordinary(), i, dead(x.Gen)))
	}
	return list
}

// 15.1: written out.
func TestValid(t *testing.T) {
	for k, a := range invalid() {
		given, unchanged := guarded(a)
		if slots.Valid(given) || isValid(a) || !unchanged() {
			t.Errorf("case %d of those that are not valid", k)
		}
	}
	for k, a := range alsoValid() {
		given, unchanged := guarded(a)
		if !slots.Valid(given) || !isValid(a) || !unchanged() {
			t.Errorf("case %d of those that are valid", k)
		}
	}
}

// isValid is Valid, condition by condition.
func isValid(a api.Table) bool {
	gens, useless := 0, 0
	for _, x := range a.Entries {
		if x.Gen > 0 && x.Gen < 1<<32 {
			gens++
		}
		if !x.Live && x.Ref > 0 {
			useless++
		}
	}
	return len(a.Entries) < 65 && gens == len(a.Entries) && useless == 0
}

// spoil changes something in a table, mostly a little.
func spoil(x *heaptest.Numbers, a *api.Table) {
	if len(a.Entries) == 0 {
		*a = allOf(60+x.Below(8), dead(1+x.Below(3)))
		return
	}
	i := x.Below(len(a.Entries))
	switch x.Below(5) {
	case 0:
		a.Entries[i].Gen += x.Below(5) - 2
	case 1:
		a.Entries[i].Live = !a.Entries[i].Live
	case 2:
		a.Entries[i].Ref = uint64(x.Below(2))
	case 3:
		a.Entries = slices.Delete(a.Entries, i, i+1)
	case 4:
		a.Entries = append(a.Entries, a.Entries[i])
	}
}

// 15.1: irregular tables, in which something has been changed or not.
func TestValidOfIrregularTables(t *testing.T) {
	counts := map[bool]int{}
	for seed := range 4000 {
		x := heaptest.Numbers(seed + 1)
		p := begin(t, &x, []int{0, 2, 4, 62, 64}[x.Below(5)])
		for range 5 + x.Below(10) {
			p.step(&x, 4)
		}
		a := copied(p.a)
		for range x.Below(4) {
			spoil(&x, &a)
		}
		want := isValid(a)
		if slots.Valid(a) != want {
			t.Fatalf("Valid of %v is %v", a, !want)
		}
		counts[want]++
		checkUseless(t, a, !want)
	}
	if counts[true] < 500 || counts[false] < 500 {
		t.Errorf("valid or not: %v", counts)
	}
}

// checkUseless checks that all calls return ErrArg for a table that is not
// valid, and that none does so for others.
func checkUseless(t *testing.T, a api.Table, useless bool) {
	t.Helper()
	var index, gen int
	for k, do := range []call{making(1, &index, &gen), setting(0, 1, 1), deleting(0, 1), moving(liveRefs(a)...)} {
		if _, e := after(t, a, do); (e == api.ErrArg) != useless {
			t.Fatalf("call %d with %v: error %d", k, a, e)
		}
	}
	if useless && (index != 0 || gen != 0) {
		t.Fatalf("New with %v: index %d, generation %d", a, index, gen)
	}
	if ref, e := got(t, a, 0, 1); (e == api.ErrArg) != useless || e != api.OK && ref != 0 {
		t.Fatalf("Get with %v: %d, error %d", a, ref, e)
	}
	if list := refs(t, a); useless && len(list) != 0 || !useless && !slices.Equal(list, liveRefs(a)) {
		t.Fatalf("Refs of %v: %v", a, list)
	}
}

// liveRefs returns the Refs of the Live entries, valid or not.
func liveRefs(a api.Table) []uint64 {
	var list []uint64
	for _, x := range a.Entries {
		if x.Live {
			list = append(list, x.Ref)
		}
	}
	return list
}

// 15.1: ErrArg first, also where other errors apply.
func TestInvalidTables(t *testing.T) {
	for _, a := range invalid() {
		checkUseless(t, a, true)
		var index, gen int
		for k, do := range []call{
			making(0, &index, &gen), setting(-1, 1, 0), setting(0, 0, 0), setting(1, 2, 0), deleting(-1, 1),
			deleting(100, 1), deleting(0, maxGen+1), deleting(1, 3), deleting(2, maxGen), moving(), moving(0),
		} {
			if _, e := after(t, a, do); e != api.ErrArg || index != 0 || gen != 0 {
				t.Errorf("call %d with %v: error %d", k, a, e)
			}
		}
		for _, x := range [][2]int{{-1, 1}, {0, 0}, {1, 2}, {1, 3}, {2, maxGen}, {100, 1}} {
			if ref, e := got(t, a, x[0], x[1]); ref != 0 || e != api.ErrArg {
				t.Errorf("Get of %v with %v: %d, error %d", x, a, ref, e)
			}
		}
	}
	for _, a := range alsoValid() {
		checkUseless(t, a, false)
	}
}
