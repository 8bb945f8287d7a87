package scope_test

import (
	"math"
	"slices"
	"testing"

	"semispace/api"
	"semispace/scope"
)

// scopesOf returns locals with these scopes and nothing else.
func scopesOf(scopes ...api.Scope) api.Locals { return api.Locals{Scopes: scopes} }

// manyScopes are locals with n scopes, one of a native frame and others in it.
func manyScopes(n int) api.Locals {
	l := scopesOf(api.Scope{Cap: 3, Base: true})
	for range n - 1 {
		l.Scopes = append(l.Scopes, api.Scope{Cap: 4})
	}
	return l
}

// example is a call with its result.
type example struct {
	name string
	l    api.Locals
	do   call
	want api.Locals
	e    api.Errno
}

// checkExamples checks that each call has its result.
func checkExamples(t *testing.T, list []example) {
	t.Helper()
	for _, x := range list {
		if l, e := after(t, x.l, x.do); e != x.e || !same(l, x.want) {
			t.Errorf("%s: %v, error %d, want %v, error %d", x.name, l, e, x.want, x.e)
		}
	}
}

// 14.2: Enter and Push, written out.
func TestEnterAndPush(t *testing.T) {
	two := func() api.Locals {
		l := api.Locals{Scopes: []api.Scope{{Cap: 5, Base: true}}, Issued: []int{0, 0, 1}}
		l.Slots = []api.Slot{{Stamp: 2, Ref: 9, Live: true}, {Stamp: 3}}
		return l
	}
	with := func(s api.Scope) api.Locals {
		l := two()
		l.Scopes = append(l.Scopes, s)
		return l
	}
	checkExamples(t, []example{
		{"the first Enter", api.Locals{}, entering(16), scopesOf(api.Scope{Cap: 16, Base: true}), api.OK},
		{"Enter after others have left", api.Locals{Issued: []int{0, 1}}, entering(0), api.Locals{Scopes: []api.Scope{{Base: true}}, Issued: []int{0, 1}}, api.OK},
		{"Enter in a frame", two(), entering(7), with(api.Scope{From: 2, Cap: 7, Base: true}), api.OK},
		{"Push", two(), pushing(7), with(api.Scope{From: 2, Cap: 7}), api.OK},
		{"Push behind a Push", manyScopes(2), pushing(4), manyScopes(3), api.OK},
		{"the least Cap of Enter", two(), entering(0), with(api.Scope{From: 2, Base: true}), api.OK},
		{"the least Cap of Push", two(), pushing(0), with(api.Scope{From: 2}), api.OK},
		{"the greatest Cap of Enter", two(), entering(64), with(api.Scope{From: 2, Cap: 64, Base: true}), api.OK},
		{"the greatest Cap of Push", two(), pushing(64), with(api.Scope{From: 2, Cap: 64}), api.OK},
		{"the last Push", manyScopes(63), pushing(4), manyScopes(64), api.OK},
	})
	l := must(t, manyScopes(63), entering(1))
	if len(l.Scopes) != 64 || l.Scopes[63] != (api.Scope{Cap: 1, Base: true}) {
		t.Errorf("the last Enter: %v", l.Scopes)
	}
}

// 14.2: the errors of Enter and Push, also several at once.
func TestErrorsOfEnterAndPush(t *testing.T) {
	none, one, all := api.Locals{}, manyScopes(1), manyScopes(64)
	list := []example{
		{"Push without Enter", none, pushing(3), none, api.ErrScope},
		{"Push after all have left", api.Locals{Issued: []int{0}}, pushing(0), none, api.ErrScope},
		{"Enter into too many scopes", all, entering(0), none, api.ErrDepth},
		{"Push into too many scopes", all, pushing(64), none, api.ErrDepth},
		{"Push into a full house", fullHouse(), pushing(0), none, api.ErrDepth},
	}
	for _, room := range []int{-1, 65, math.MinInt, math.MaxInt} {
		for _, l := range []api.Locals{none, one, all, ordinary(), fullHouse()} {
			list = append(list, example{"Enter", l, entering(room), none, api.ErrArg})
			list = append(list, example{"Push", l, pushing(room), none, api.ErrArg})
		}
	}
	checkExamples(t, list)
}

// 14.2: Pop and Leave, written out.
func TestPopAndLeave(t *testing.T) {
	l := ordinary()
	outer := api.Locals{Slots: l.Slots[:3], Scopes: l.Scopes[:2], Issued: l.Issued}
	first := api.Locals{Slots: l.Slots[:3], Scopes: l.Scopes[:1], Issued: l.Issued}
	issued, none := api.Locals{Issued: l.Issued}, api.Locals{}
	nested := manyScopes(4)
	nested.Scopes = append(nested.Scopes, api.Scope{Base: true}, api.Scope{}, api.Scope{})
	checkExamples(t, []example{
		{"Pop", l, scope.Pop, outer, api.OK},
		{"Pop of the scope of a frame in another", outer, scope.Pop, none, api.ErrScope},
		{"Pop of the scope of the first frame", first, scope.Pop, none, api.ErrScope},
		{"Pop of nothing", none, scope.Pop, none, api.ErrScope},
		{"Pop after all have left", issued, scope.Pop, none, api.ErrScope},
		{"Pop of one of many", manyScopes(64), scope.Pop, manyScopes(63), api.OK},
		{"Leave with a scope in the frame", l, scope.Leave, first, api.OK},
		{"Leave with only the scope of the frame", outer, scope.Leave, first, api.OK},
		{"Leave of the first frame", first, scope.Leave, issued, api.OK},
		{"Leave of nothing", none, scope.Leave, none, api.ErrScope},
		{"Leave after all have left", issued, scope.Leave, none, api.ErrScope},
		{"Leave of a frame with many scopes", manyScopes(64), scope.Leave, none, api.OK},
		{"Leave of the second frame", nested, scope.Leave, manyScopes(4), api.OK},
	})
}

// 14.3: New, written out.
func TestNew(t *testing.T) {
	l, index, stamp, e := made(t, scopesOf(api.Scope{Cap: 1, Base: true}), 4096)
	want := api.Locals{Slots: []api.Slot{{Stamp: 1, Ref: 4096, Live: true}}, Scopes: []api.Scope{{Cap: 1, Base: true}}, Issued: []int{0}}
	if e != api.OK || index != 0 || stamp != 1 || !same(l, want) {
		t.Errorf("the first New: %v, index %d, stamp %d, error %d", l, index, stamp, e)
	}
	l = ordinary()
	l.Scopes[2].Cap = 3
	later, index, stamp, e := made(t, l, math.MaxUint64)
	l.Slots = append(l.Slots, api.Slot{Stamp: 8, Ref: math.MaxUint64, Live: true})
	l.Issued = append(l.Issued, 5)
	if e != api.OK || index != 5 || stamp != 8 || !same(later, l) {
		t.Errorf("a later New: %v, index %d, stamp %d, error %d", later, index, stamp, e)
	}
}

// 14.3: after a Pop, the index is used again, and the stamp is not.
func TestNewAfterPop(t *testing.T) {
	l := program(t, entering(4), handles(1), pushing(2), handles(2, 3), scope.Pop)
	l, index, stamp, e := made(t, l, 5)
	if e != api.OK || index != 1 || stamp != 4 || !slices.Equal(l.Issued, []int{0, 1, 2, 1}) {
		t.Errorf("%v, index %d, stamp %d, error %d", l, index, stamp, e)
	}
	l, index, stamp, e = made(t, program(t, entering(1), handles(1), scope.Leave, entering(1)), 5)
	if e != api.OK || index != 0 || stamp != 2 || !slices.Equal(l.Issued, []int{0, 0}) {
		t.Errorf("%v, index %d, stamp %d, error %d", l, index, stamp, e)
	}
}

// 14.3: only the Live slots of the last scope count.
func TestCapacity(t *testing.T) {
	full := program(t, entering(2), handles(1, 2))
	for _, x := range []struct {
		name string
		l    api.Locals
		e    api.Errno
	}{
		{"no room", program(t, entering(0)), api.ErrCapacity},
		{"one is left", program(t, entering(2), handles(1)), api.OK},
		{"none is left", full, api.ErrCapacity},
		{"one is deleted", must(t, full, deleting(0, 1)), api.OK},
		{"one is deleted and made again", must(t, must(t, full, deleting(1, 2)), handles(3)), api.ErrCapacity},
		{"room in a scope within", must(t, full, pushing(1)), api.OK},
		{"none is left in a scope within", must(t, must(t, full, pushing(1)), handles(3)), api.ErrCapacity},
		{"one of another scope is deleted", program(t, entering(2), handles(1), pushing(1), handles(2), deleting(0, 1)), api.ErrCapacity},
		{"room behind a scope that is full", program(t, entering(1), handles(1), entering(1)), api.OK},
		{"room in the scope around", program(t, entering(2), handles(1), pushing(0)), api.ErrCapacity},
		{"after the scope within is closed", program(t, entering(2), handles(1), pushing(1), handles(2), scope.Pop), api.OK},
		{"64 in one scope", must(t, program(t, entering(64)), handles(slices.Repeat([]uint64{1}, 63)...)), api.OK},
		{"65 in one scope", must(t, program(t, entering(64)), handles(slices.Repeat([]uint64{1}, 64)...)), api.ErrCapacity},
	} {
		if _, index, stamp, e := made(t, x.l, 9); e != x.e || e != api.OK && (index != 0 || stamp != 0) {
			t.Errorf("%s: index %d, stamp %d, error %d, want %d", x.name, index, stamp, e, x.e)
		}
	}
}

// 14.3: the errors of New in their order, and the last stamp.
func TestErrorsOfNew(t *testing.T) {
	issued := func(n int, scopes ...api.Scope) api.Locals {
		return api.Locals{Scopes: scopes, Issued: make([]int, n)}
	}
	room, none := api.Scope{Cap: 1, Base: true}, api.Scope{Base: true}
	for _, x := range []struct {
		name string
		l    api.Locals
		ref  uint64
		e    api.Errno
	}{
		{"null", issued(0, room), 0, api.ErrArg},
		{"null without a scope", issued(0), 0, api.ErrArg},
		{"null without room", issued(0, none), 0, api.ErrArg},
		{"null without stamps", issued(4096, room), 0, api.ErrArg},
		{"null without anything", issued(4096), 0, api.ErrArg},
		{"no scope", issued(0), 1, api.ErrScope},
		{"no scope and no stamps", issued(4096), 1, api.ErrScope},
		{"no room", issued(4095, none), 1, api.ErrCapacity},
		{"no room and no stamps", issued(4096, none), 1, api.ErrCapacity},
		{"no stamps", issued(4096, room), 1, api.ErrFull},
		{"the last stamp", issued(4095, room), 1, api.OK},
	} {
		_, index, stamp, e := made(t, x.l, x.ref)
		if e != x.e || index != 0 || (e == api.OK) != (stamp == 4096) || e != api.OK && stamp != 0 {
			t.Errorf("%s: index %d, stamp %d, error %d, want %d", x.name, index, stamp, e, x.e)
		}
	}
}

// 14.4: Get and Delete have the same errors, the first that applies.
func TestGetAndDelete(t *testing.T) {
	// Slots 0 to 4 have the stamps 1 to 3, 6 and 7, of which 2 is deleted.
	reused := ordinary()
	short := program(t, entering(3), handles(7, 8), deleting(1, 2), pushing(3), handles(9), deleting(2, 3), scope.Pop)
	for _, x := range []struct {
		l            api.Locals
		index, stamp int
		ref          uint64
		e            api.Errno
	}{
		{reused, 0, 1, 4096, api.OK}, {reused, 2, 3, 4100, api.OK}, {reused, 3, 6, 4096, api.OK}, {reused, 4, 7, math.MaxUint64, api.OK},
		{reused, 1, 2, 0, api.ErrDeleted},
		{reused, 3, 4, 0, api.ErrStale}, {reused, 4, 5, 0, api.ErrStale}, // their slots have other stamps
		{short, 2, 3, 0, api.ErrStale}, // no such slot, and deleted before
		{short, 0, 1, 7, api.OK}, {short, 1, 2, 0, api.ErrDeleted},
		{reused, 0, 0, 0, api.ErrForged}, {reused, 0, -1, 0, api.ErrForged}, {reused, 0, math.MinInt, 0, api.ErrForged},
		{reused, 0, 8, 0, api.ErrForged}, {reused, 5, 8, 0, api.ErrForged}, {reused, 0, math.MaxInt, 0, api.ErrForged},
		{reused, 1, 1, 0, api.ErrForged}, {reused, 0, 2, 0, api.ErrForged}, {reused, 4, 6, 0, api.ErrForged}, {reused, 3, 5, 0, api.ErrForged},
		{reused, -1, 1, 0, api.ErrForged}, {reused, 5, 1, 0, api.ErrForged}, {reused, math.MaxInt, 3, 0, api.ErrForged}, {reused, math.MinInt, 3, 0, api.ErrForged},
		{short, 3, 3, 0, api.ErrForged}, {short, 2, 2, 0, api.ErrForged}, {api.Locals{}, 0, 1, 0, api.ErrForged}, {api.Locals{}, 0, 0, 0, api.ErrForged},
		{api.Locals{Issued: []int{0, 4095}}, 0, 1, 0, api.ErrStale}, {api.Locals{Issued: []int{0, 4095}}, 4095, 2, 0, api.ErrStale},
	} {
		if ref, e := got(t, x.l, x.index, x.stamp); ref != x.ref || e != x.e {
			t.Errorf("Get of %d and %d: %d, error %d, want %d, error %d", x.index, x.stamp, ref, e, x.ref, x.e)
		}
		l, e := after(t, x.l, deleting(x.index, x.stamp))
		want := api.Locals{}
		if x.e == api.OK {
			want = copied(x.l)
			want.Slots[x.index].Ref, want.Slots[x.index].Live = 0, false
		}
		if e != x.e || !same(l, want) {
			t.Errorf("Delete of %d and %d: %v, error %d, want error %d", x.index, x.stamp, l, e, x.e)
		}
	}
}

// 14.5: Refs and Move, written out.
func TestRefsAndMove(t *testing.T) {
	l := ordinary()
	if list := refs(t, l); !slices.Equal(list, []uint64{4096, 4100, 4096, math.MaxUint64}) {
		t.Errorf("Refs: %v", list)
	}
	want := ordinary()
	want.Slots[0].Ref, want.Slots[2].Ref, want.Slots[3].Ref, want.Slots[4].Ref = 1, math.MaxUint64, 3, 1
	none := api.Locals{}
	open := program(t, entering(2), handles(5), deleting(0, 1))
	checkExamples(t, []example{
		{"Move", l, moving(1, math.MaxUint64, 3, 1), want, api.OK},
		{"Move to the same", l, moving(4096, 4100, 4096, math.MaxUint64), l, api.OK},
		{"Move of none", none, moving(), none, api.OK},
		{"Move of a slot that is not Live", open, moving(), open, api.OK},
		{"too many for none", none, moving(1), none, api.ErrArg},
		{"too many for a slot that is not Live", open, moving(1), none, api.ErrArg},
		{"none", l, moving(), none, api.ErrArg},
		{"too few", l, moving(1, 2, 3), none, api.ErrArg},
		{"one for each slot", l, moving(1, 2, 3, 4, 5), none, api.ErrArg},
		{"null first", l, moving(0, 2, 3, 4), none, api.ErrArg},
		{"null last", l, moving(1, 2, 3, 0), none, api.ErrArg},
		{"too few, and null", l, moving(0), none, api.ErrArg},
		{"null for the slot that is not Live", l, moving(1, 0, 3, 4, 5), none, api.ErrArg},
	})
	if list := refs(t, open); len(list) != 0 {
		t.Errorf("Refs of a slot that is not Live: %v", list)
	}
	if list := refs(t, none); len(list) != 0 {
		t.Errorf("Refs of none: %v", list)
	}
}

// 14.5: the Refs are new memory, too.
func TestRefsAreNewMemory(t *testing.T) {
	given, unchanged := guarded(ordinary())
	list := scope.Refs(given)
	for k := range list[:cap(list)] {
		list[:cap(list)][k] = 88
	}
	if !unchanged() {
		t.Error("the argument has changed")
	}
}

// 14.6: what becomes of a handle.
func TestLifeOfAHandle(t *testing.T) {
	l := program(t, entering(2), pushing(2), handles(4096))
	check := func(l api.Locals, ref uint64, want api.Errno) {
		t.Helper()
		if found, e := got(t, l, 0, 1); found != ref || e != want {
			t.Errorf("%d, error %d, want %d, error %d", found, e, ref, want)
		}
	}
	check(program(t, entering(2), pushing(2)), 0, api.ErrForged)
	check(l, 4096, api.OK)
	check(must(t, must(t, l, pushing(0)), scope.Pop), 4096, api.OK)
	check(must(t, must(t, l, entering(0)), scope.Leave), 4096, api.OK)
	check(must(t, l, moving(4200)), 4200, api.OK)
	deleted := must(t, l, deleting(0, 1))
	check(deleted, 0, api.ErrDeleted)
	check(must(t, deleted, handles(4200)), 0, api.ErrDeleted)
	for _, open := range []api.Locals{l, deleted} {
		for _, end := range []call{scope.Pop, scope.Leave} {
			closed := must(t, open, end)
			check(closed, 0, api.ErrStale)
			closed = must(t, must(t, closed, entering(2)), handles(4200))
			check(closed, 0, api.ErrStale) // its index is used again
			check(must(t, closed, deleting(0, 2)), 0, api.ErrStale)
		}
	}
}

func TestExamples(t *testing.T) {
	if _, e := scope.Push(api.Locals{}, 4); e != api.ErrScope {
		t.Errorf("Push without Enter: error %d", e)
	}
	l, e := scope.Enter(api.Locals{}, 4)
	if e != api.OK {
		t.Errorf("Enter: error %d", e)
	}
	l, index, stamp, e := scope.New(l, 4096)
	if index != 0 || stamp != 1 || e != api.OK {
		t.Errorf("the first New: index %d, stamp %d, error %d", index, stamp, e)
	}
	if l, e = scope.Leave(l); e != api.OK {
		t.Errorf("Leave: error %d", e)
	}
	if ref, e := scope.Get(l, 0, 1); ref != 0 || e != api.ErrStale {
		t.Errorf("Get of it after Leave: %d, error %d", ref, e)
	}
}
