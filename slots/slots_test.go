package slots_test

import (
	"math"
	"slices"
	"testing"

	"semispace/api"
	"semispace/slots"
)

// 15.2: New, written out.
func TestNew(t *testing.T) {
	full := allOf(64, live(1, 9))
	almost := allOf(63, live(1, 9))
	for _, x := range []struct {
		name       string
		a          api.Table
		ref        uint64
		want       api.Table
		index, gen int
	}{
		{"the first New", tableOf(), 4096, tableOf(live(1, 4096)), 0, 1},
		{"of null", tableOf(), 0, tableOf(live(1, 0)), 0, 1},
		{"of the greatest word", tableOf(live(1, 0)), math.MaxUint64, tableOf(live(1, 0), live(1, math.MaxUint64)), 1, 1},
		{"of the same again", tableOf(live(1, 5)), 5, tableOf(live(1, 5), live(1, 5)), 1, 1},
		{"a new entry has Gen 1", tableOf(live(7, 5), live(9, 6)), 8, tableOf(live(7, 5), live(9, 6), live(1, 8)), 2, 1},
		{"used again", tableOf(dead(1)), 5, tableOf(live(2, 5)), 0, 2},
		{"used again between others", tableOf(live(3, 1), dead(5), live(2, 2)), 4, tableOf(live(3, 1), live(6, 4), live(2, 2)), 1, 6},
		{"the first that is not Live", tableOf(live(1, 1), dead(9), dead(1), dead(4)), 4, tableOf(live(1, 1), live(10, 4), dead(1), dead(4)), 1, 10},
		{"the last that is not Live", tableOf(live(1, 1), live(1, 0), dead(4)), 4, tableOf(live(1, 1), live(1, 0), live(5, 4)), 2, 5},
		{"Live with Ref 0 is Live", tableOf(live(1, 0)), 3, tableOf(live(1, 0), live(1, 3)), 1, 1},
		{"the last Gen but one", tableOf(dead(maxGen - 2)), 3, tableOf(live(maxGen-1, 3)), 0, maxGen - 1},
		{"the last Gen", tableOf(dead(maxGen - 1)), 3, tableOf(live(maxGen, 3)), 0, maxGen},
		{"after the last Gen", tableOf(dead(maxGen)), 3, tableOf(dead(maxGen), live(1, 3)), 1, 1},
		{"after the last Gen, an entry behind it", tableOf(dead(maxGen), live(1, 2), dead(3), dead(1)), 3, tableOf(dead(maxGen), live(1, 2), live(4, 3), dead(1)), 2, 4},
		{"Live with the last Gen", tableOf(live(maxGen, 1), dead(maxGen)), 3, tableOf(live(maxGen, 1), dead(maxGen), live(1, 3)), 2, 1},
		{"the last entry", almost, 5, more(almost, live(1, 5)), 63, 1},
		{"the first of 64 again", with(full, 0, dead(1)), 5, with(full, 0, live(2, 5)), 0, 2},
		{"the last of 64 again", with(full, 63, dead(1)), 5, with(full, 63, live(2, 5)), 63, 2},
		{"the only one below the last Gen", with(allOf(64, dead(maxGen)), 40, dead(maxGen-1)), 5, with(allOf(64, dead(maxGen)), 40, live(maxGen, 5)), 40, maxGen},
	} {
		var index, gen int
		a, e := after(t, x.a, making(x.ref, &index, &gen))
		if e != api.OK || index != x.index || gen != x.gen || !same(a, x.want) {
			t.Errorf("%s: %v, index %d, generation %d, error %d, want %v, index %d, generation %d", x.name, a, index, gen, e, x.want, x.index, x.gen)
		}
	}
}

// 15.2: ErrFull if no entry can be used and none can be appended.
func TestFull(t *testing.T) {
	for k, a := range []api.Table{
		allOf(64, live(1, 9)), allOf(64, live(1, 0)), allOf(64, dead(maxGen)), allOf(64, live(maxGen, 1)),
		with(allOf(64, live(1, 9)), 0, dead(maxGen)), with(allOf(64, dead(maxGen)), 63, live(1, 9)),
	} {
		for _, ref := range []uint64{0, 4096} {
			var index, gen int
			if _, e := after(t, a, making(ref, &index, &gen)); e != api.ErrFull || index != 0 || gen != 0 {
				t.Errorf("table %d: index %d, generation %d, error %d", k, index, gen, e)
			}
		}
	}
}

// 15.3: Get, Set and Delete have the same errors, the first that applies.
func TestGetSetAndDelete(t *testing.T) {
	// Entries 1, 3 and 5 are not Live; their Gens are 1, 3, the last, the last, 2 and 1.
	a, none := ordinary(), api.Table{}
	for _, x := range []struct {
		a          api.Table
		index, gen int
		ref        uint64
		e          api.Errno
	}{
		{a, 0, 1, 4096, api.OK}, {a, 2, maxGen, math.MaxUint64, api.OK}, {a, 4, 2, 0, api.OK},
		{a, 1, 3, 0, api.ErrDeleted}, {a, 3, maxGen, 0, api.ErrDeleted}, {a, 5, 1, 0, api.ErrDeleted}, // not Live
		{a, 2, 1, 0, api.ErrDeleted}, {a, 2, maxGen - 1, 0, api.ErrDeleted}, {a, 4, 1, 0, api.ErrDeleted}, // less than Gen
		{a, 1, 1, 0, api.ErrDeleted}, {a, 1, 2, 0, api.ErrDeleted}, {a, 3, 1, 0, api.ErrDeleted}, // both
		{a, 0, 2, 0, api.ErrForged}, {a, 4, 3, 0, api.ErrForged}, {a, 2, maxGen + 1, 0, api.ErrForged}, // greater than Gen
		{a, 1, 4, 0, api.ErrForged}, {a, 5, 2, 0, api.ErrForged}, {a, 3, maxGen + 1, 0, api.ErrForged}, // and not Live
		{a, 0, math.MaxInt, 0, api.ErrForged}, {a, 1, math.MaxInt, 0, api.ErrForged},
		{a, 0, 0, 0, api.ErrForged}, {a, 0, -1, 0, api.ErrForged}, {a, 4, math.MinInt, 0, api.ErrForged}, // less than 1
		{a, 1, 0, 0, api.ErrForged}, {a, 3, -1, 0, api.ErrForged}, {a, 5, math.MinInt, 0, api.ErrForged}, // and not Live
		{a, -1, 1, 0, api.ErrForged}, {a, 6, 1, 0, api.ErrForged}, {a, 64, 1, 0, api.ErrForged},
		{a, math.MinInt, 1, 0, api.ErrForged}, {a, math.MaxInt, 1, 0, api.ErrForged}, {a, -1, 0, 0, api.ErrForged},
		{none, 0, 1, 0, api.ErrForged}, {none, 0, 0, 0, api.ErrForged}, {none, -1, 1, 0, api.ErrForged},
		{allOf(64, live(2, 7)), 63, 2, 7, api.OK}, {allOf(64, live(2, 7)), 64, 2, 0, api.ErrForged},
	} {
		if ref, e := got(t, x.a, x.index, x.gen); ref != x.ref || e != x.e {
			t.Errorf("Get of %d and %d: %d, error %d, want %d, error %d", x.index, x.gen, ref, e, x.ref, x.e)
		}
		want := api.Table{}
		if x.e == api.OK {
			want = with(x.a, x.index, dead(x.gen))
		}
		if out, e := after(t, x.a, deleting(x.index, x.gen)); e != x.e || !same(out, want) {
			t.Errorf("Delete of %d and %d: %v, error %d, want %v, error %d", x.index, x.gen, out, e, want, x.e)
		}
		for _, ref := range []uint64{0, 1, x.ref, math.MaxUint64} {
			if x.e == api.OK {
				want = with(x.a, x.index, live(x.gen, ref))
			}
			if out, e := after(t, x.a, setting(x.index, x.gen, ref)); e != x.e || !same(out, want) {
				t.Errorf("Set of %d and %d to %d: %v, error %d, want %v, error %d", x.index, x.gen, ref, out, e, want, x.e)
			}
		}
	}
}

// 15.4: Refs and Move, written out.
func TestRefsAndMove(t *testing.T) {
	a, none := ordinary(), api.Table{}
	unused := tableOf(dead(1), dead(maxGen))
	moved := tableOf(live(1, 7), dead(3), live(maxGen, 0), dead(maxGen), live(2, math.MaxUint64), dead(1))
	for _, x := range []struct {
		name string
		a    api.Table
		refs []uint64
		want api.Table
		e    api.Errno
	}{
		{"Move", a, []uint64{7, 0, math.MaxUint64}, moved, api.OK},
		{"Move to the same", a, []uint64{4096, math.MaxUint64, 0}, a, api.OK},
		{"Move to null", tableOf(live(1, 7), live(1, 8)), []uint64{0, 0}, tableOf(live(1, 0), live(1, 0)), api.OK},
		{"Move of none", none, nil, none, api.OK},
		{"Move without an entry that is Live", unused, nil, unused, api.OK},
		{"too many for none", none, []uint64{1}, none, api.ErrArg},
		{"too many without an entry that is Live", unused, []uint64{0}, none, api.ErrArg},
		{"none", a, nil, none, api.ErrArg},
		{"one too few", a, []uint64{1, 2}, none, api.ErrArg},
		{"one too many", a, []uint64{1, 2, 3, 4}, none, api.ErrArg},
		{"one for each entry", a, []uint64{1, 0, 3, 0, 5, 0}, none, api.ErrArg},
		{"only for what is not null", a, []uint64{4096, math.MaxUint64}, none, api.ErrArg},
	} {
		if out, e := after(t, x.a, moving(x.refs...)); e != x.e || !same(out, x.want) {
			t.Errorf("%s: %v, error %d, want %v, error %d", x.name, out, e, x.want, x.e)
		}
	}
	if list := refs(t, a); !slices.Equal(list, []uint64{4096, math.MaxUint64, 0}) {
		t.Errorf("Refs: %v", list)
	}
	for _, a := range []api.Table{none, unused, allOf(65, live(1, 1)), more(ordinary(), dead(0)), more(ordinary(), wrong(1, 7))} {
		if list := refs(t, a); len(list) != 0 {
			t.Errorf("Refs of %v: %v", a, list)
		}
	}
}

// 15.4: Refs and Move go through many entries in order, each time that they are
// called.
func TestOrderOfMany(t *testing.T) {
	var a, want api.Table
	var before, later []uint64
	for k := range uint64(64) {
		if k%3 == 1 {
			a, want = more(a, dead(int(k+1))), more(want, dead(int(k+1)))
			continue
		}
		a, want = more(a, live(int(k+1), k*k)), more(want, live(int(k+1), 1000-k))
		before, later = append(before, k*k), append(later, 1000-k)
	}
	for range 20 {
		if list := refs(t, a); !slices.Equal(list, before) {
			t.Fatalf("Refs: %v", list)
		}
		out := program(t, a, moving(later...))
		if list := refs(t, out); !same(out, want) || !slices.Equal(list, later) {
			t.Fatalf("Move: %v", out)
		}
	}
}

// 15.5: what becomes of a handle.
func TestLifeOfAHandle(t *testing.T) {
	check := func(a api.Table, gen int, ref uint64, want api.Errno) {
		t.Helper()
		if found, e := got(t, a, 1, gen); found != ref || e != want {
			t.Errorf("generation %d: %d, error %d, want %d, error %d", gen, found, e, ref, want)
		}
	}
	a := program(t, tableOf(), handles(4096))
	check(a, 1, 0, api.ErrForged)
	a = program(t, a, handles(4100))
	check(a, 1, 4100, api.OK)
	check(program(t, a, handles(1, 2, 3), deleting(0, 1), deleting(3, 1), handles(4)), 1, 4100, api.OK)
	check(program(t, a, setting(1, 1, 7)), 1, 7, api.OK)
	check(program(t, a, moving(8, 9)), 1, 9, api.OK)
	check(program(t, a, setting(1, 1, 0)), 1, 0, api.OK)
	check(a, 2, 0, api.ErrForged)
	for gen := 1; gen < 6; gen++ {
		a = program(t, a, deleting(1, gen))
		check(a, gen, 0, api.ErrDeleted)
		check(a, gen+1, 0, api.ErrForged)
		a = program(t, a, handles(uint64(gen)))
		check(a, gen+1, uint64(gen), api.OK)
		for old := range gen {
			check(a, old+1, 0, api.ErrDeleted)
		}
		if _, e := after(t, a, deleting(1, gen)); e != api.ErrDeleted {
			t.Errorf("a handle of an entry that is used again is deleted: error %d", e)
		}
	}
}

// 15.5: with the last generation, too, a handle is not made again.
func TestLastGeneration(t *testing.T) {
	a := program(t, tableOf(dead(maxGen-1)), handles(5))
	if ref, e := got(t, a, 0, maxGen); ref != 5 || e != api.OK {
		t.Errorf("the last: %d, error %d", ref, e)
	}
	a = program(t, a, deleting(0, maxGen), handles(6))
	if want := tableOf(dead(maxGen), live(1, 6)); !same(a, want) {
		t.Errorf("%v, want %v", a, want)
	}
	for _, gen := range []int{1, maxGen - 1, maxGen} {
		if ref, e := got(t, a, 0, gen); ref != 0 || e != api.ErrDeleted {
			t.Errorf("generation %d: %d, error %d", gen, ref, e)
		}
	}
}

func TestExamples(t *testing.T) {
	a, index, first, e := slots.New(api.Table{}, 4096)
	if index != 0 || first != 1 || e != api.OK {
		t.Errorf("New: index %d, generation %d, error %d", index, first, e)
	}
	if a, e = slots.Delete(a, index, first); e != api.OK {
		t.Errorf("Delete: error %d", e)
	}
	a, index, second, e := slots.New(a, 4100)
	if index != 0 || second != 2 || e != api.OK {
		t.Errorf("the second New: index %d, generation %d, error %d", index, second, e)
	}
	if ref, e := slots.Get(a, 0, first); ref != 0 || e != api.ErrDeleted {
		t.Errorf("Get of the first handle after that: %d, error %d", ref, e)
	}
	if ref, e := slots.Get(a, 0, 3); ref != 0 || e != api.ErrForged {
		t.Errorf("Get of index 0, Gen 3: %d, error %d", ref, e)
	}
}
