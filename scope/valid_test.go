package scope_test

import (
	"math"
	"slices"
	"testing"

	"semispace/api"
	"semispace/heaptest"
	"semispace/scope"
)

// ordinary are locals of two frames, in the second of which a scope has been
// closed and one is open. Its handles have the stamps 1 to 3, 6 and 7, of which
// 2 is deleted.
func ordinary() api.Locals {
	return api.Locals{
		Slots:  []api.Slot{{Stamp: 1, Ref: 4096, Live: true}, {Stamp: 2}, {Stamp: 3, Ref: 4100, Live: true}, {Stamp: 6, Ref: 4096, Live: true}, {Stamp: 7, Ref: math.MaxUint64, Live: true}},
		Scopes: []api.Scope{{From: 0, Cap: 2, Base: true}, {From: 3, Cap: 5, Base: true}, {From: 3, Cap: 2}},
		Issued: []int{0, 1, 2, 3, 4, 3, 4},
	}
}

// fullHouse are locals with as many scopes, handles in each and stamps as there
// may be.
func fullHouse() api.Locals {
	var l api.Locals
	for i := range 4096 {
		if i%64 == 0 {
			l.Scopes = append(l.Scopes, api.Scope{From: i, Cap: 64, Base: i%256 == 0})
		}
		l.Slots = append(l.Slots, api.Slot{Stamp: i + 1, Ref: 4096, Live: true})
		l.Issued = append(l.Issued, i)
	}
	return l
}

// changed returns a copy of locals for each of these functions, which changes
// it.
func changed(of func() api.Locals, changes []func(l *api.Locals)) []api.Locals {
	list := make([]api.Locals, len(changes))
	for k, change := range changes {
		list[k] = of()
		change(&list[k])
	}
	return list
}

// invalid are locals that are not valid, most of them in one thing only.
func invalid() []api.Locals {
	return slices.Concat(changed(ordinary, []func(l *api.Locals){
		func(l *api.Locals) { l.Issued[6] = 5 },
		func(l *api.Locals) { l.Issued[4] = -1 },
		func(l *api.Locals) { l.Issued[4] = 4096 },
		func(l *api.Locals) { l.Issued[4] = math.MinInt },
		func(l *api.Locals) { l.Issued[4] = math.MaxInt },
		func(l *api.Locals) { l.Issued = append(l.Issued, 4096) },
		func(l *api.Locals) { l.Issued = append(l.Issued, make([]int, 4090)...) },
		func(l *api.Locals) { l.Issued = l.Issued[:6] },
		func(l *api.Locals) { l.Issued = nil },
		func(l *api.Locals) { l.Scopes = nil },
		func(l *api.Locals) { l.Scopes = l.Scopes[1:] },
		func(l *api.Locals) { l.Scopes[0].From = 1 },
		func(l *api.Locals) { l.Scopes[0].From = -1 },
		func(l *api.Locals) { l.Scopes[0].Base = false },
		func(l *api.Locals) { l.Scopes[1].From = -1 },
		func(l *api.Locals) { l.Scopes[1].From = math.MinInt },
		func(l *api.Locals) { l.Scopes[1].From = 4 },
		func(l *api.Locals) { l.Scopes[2].From = 2 },
		func(l *api.Locals) { l.Scopes[2].From = 6 },
		func(l *api.Locals) { l.Scopes[1].From, l.Scopes[2].From = 6, 6 },
		func(l *api.Locals) { l.Scopes[1].From, l.Scopes[2].From = math.MaxInt, math.MaxInt },
		func(l *api.Locals) { l.Scopes[0].Cap = -1 },
		func(l *api.Locals) { l.Scopes[0].Cap = 65 },
		func(l *api.Locals) { l.Scopes[1].Cap = -1 },
		func(l *api.Locals) { l.Scopes[1].Cap = 65 },
		func(l *api.Locals) { l.Scopes[2].Cap = math.MaxInt },
		func(l *api.Locals) { l.Scopes[0].Cap = 1 },
		func(l *api.Locals) { l.Scopes[2].Cap = 1 },
		func(l *api.Locals) { l.Scopes[1].Cap, l.Scopes[2].From = 0, 4 },
		func(l *api.Locals) {
			for range 62 {
				l.Scopes = append(l.Scopes, api.Scope{From: 5})
			}
		},
		func(l *api.Locals) { l.Slots[0].Stamp = 0 },
		func(l *api.Locals) { l.Slots[0].Stamp = -1 },
		func(l *api.Locals) { l.Slots[0].Stamp = math.MinInt },
		func(l *api.Locals) { l.Slots[4].Stamp = math.MaxInt },
		func(l *api.Locals) { l.Slots[4].Stamp = 8 },
		func(l *api.Locals) { l.Slots[3].Stamp = 5 },
		func(l *api.Locals) { l.Slots[2].Stamp, l.Issued[1] = 2, 2 },
		func(l *api.Locals) { l.Slots[2].Stamp, l.Issued[0] = 1, 2 },
		func(l *api.Locals) { l.Slots[3], l.Slots[4], l.Issued[5], l.Issued[6] = l.Slots[4], l.Slots[3], 4, 3 },
		func(l *api.Locals) { l.Slots[1].Ref = 4096 },
		func(l *api.Locals) { l.Slots[2].Ref = 0 },
		func(l *api.Locals) { l.Slots[2].Live = false },
		func(l *api.Locals) { l.Slots[1].Live = true },
		func(l *api.Locals) { l.Slots[4].Live = false },
	}), changed(fullHouse, []func(l *api.Locals){
		func(l *api.Locals) { l.Issued = append(l.Issued, 0) },
		func(l *api.Locals) { l.Scopes = append(l.Scopes, api.Scope{From: 4096}) },
		func(l *api.Locals) { l.Slots = append(l.Slots, api.Slot{Stamp: 4097, Ref: 4096, Live: true}) },
		func(l *api.Locals) { l.Slots = append(l.Slots, api.Slot{Stamp: 4096}) },
		func(l *api.Locals) { l.Scopes[63].Cap = 63 },
		func(l *api.Locals) { l.Scopes[1].From = 63 },
		func(l *api.Locals) { l.Scopes[0].Cap = 65 },
	}), []api.Locals{
		{Slots: []api.Slot{{Stamp: 1, Ref: 1, Live: true}}, Issued: []int{0}},
		{Slots: []api.Slot{{Stamp: 1}}, Issued: []int{0}},
		{Scopes: []api.Scope{{}}},
		{Scopes: make([]api.Scope, 65)},
		{Issued: make([]int, 4097)},
		{Issued: []int{4096}},
		{Slots: make([]api.Slot, 5000), Scopes: []api.Scope{{Base: true}}, Issued: make([]int, 5000)},
	})
}

// alsoValid are locals that are valid at the last value that is allowed, or
// strange.
func alsoValid() []api.Locals {
	return slices.Concat(changed(ordinary, []func(l *api.Locals){
		func(l *api.Locals) {},
		func(l *api.Locals) { l.Issued[4] = 4095 },
		func(l *api.Locals) { l.Issued[3] = 0 },
		func(l *api.Locals) { l.Issued = append(l.Issued, make([]int, 4089)...) },
		func(l *api.Locals) { l.Scopes = l.Scopes[:2] },
		func(l *api.Locals) { l.Scopes[2].Base = true },
		func(l *api.Locals) { l.Scopes[1].Base = false },
		func(l *api.Locals) { l.Scopes[1].From, l.Scopes[2].From = 0, 0; l.Scopes[2].Cap = 4 },
		func(l *api.Locals) { l.Scopes[1].From = 1 },
		func(l *api.Locals) { l.Scopes[2].From = 5 },
		func(l *api.Locals) { l.Scopes[0].Cap, l.Scopes[1].From, l.Scopes[2].From = 4, 5, 5 },
		func(l *api.Locals) { l.Scopes[1].Cap = 0 },
		func(l *api.Locals) { l.Scopes[1].Cap = 64 },
		func(l *api.Locals) { l.Scopes[1].Cap, l.Scopes[2].From = 1, 4 },
		func(l *api.Locals) { l.Slots[0] = api.Slot{Stamp: 1}; l.Scopes[0].Cap = 1 },
		func(l *api.Locals) { l.Slots[3].Stamp = 4 },
		func(l *api.Locals) { l.Slots[4] = api.Slot{Stamp: 7} },
		func(l *api.Locals) { l.Slots[4].Ref = 1 },
		func(l *api.Locals) {
			for range 61 {
				l.Scopes = append(l.Scopes, api.Scope{From: 5})
			}
		},
	}), []api.Locals{
		{},
		{Slots: []api.Slot{}, Scopes: []api.Scope{}, Issued: []int{}},
		{Issued: []int{0, 4095, 7}},
		{Issued: make([]int, 4096)},
		{Scopes: []api.Scope{{Base: true}}},
		{Scopes: []api.Scope{{Base: true, Cap: 64}}, Issued: []int{4095}},
		{Scopes: []api.Scope{{Base: true}}, Slots: []api.Slot{{Stamp: 1}}, Issued: []int{0}},
		fullHouse(),
	})
}

// 14.1: written out.
func TestValid(t *testing.T) {
	for k, l := range invalid() {
		given, unchanged := guarded(l)
		if scope.Valid(given) || isValid(l) || !unchanged() {
			t.Errorf("case %d of those that are not valid", k)
		}
	}
	for k, l := range alsoValid() {
		given, unchanged := guarded(l)
		if !scope.Valid(given) || !isValid(l) || !unchanged() {
			t.Errorf("case %d of those that are valid", k)
		}
	}
}

// isValid is Valid, sentence by sentence.
func isValid(l api.Locals) bool {
	return isIssued(l) && areScopes(l) && areSlots(l) && fit(l)
}

func isIssued(l api.Locals) bool {
	return len(l.Issued) <= 4096 && !slices.ContainsFunc(l.Issued, func(i int) bool { return i < 0 || i > 4095 })
}

func areScopes(l api.Locals) bool {
	for k, s := range l.Scopes {
		if s.Cap < 0 || s.Cap > 64 {
			return false
		}
		if k == 0 && (s.From != 0 || !s.Base) {
			return false
		}
		if k > 0 && (s.From < l.Scopes[k-1].From || s.From > len(l.Slots)) {
			return false
		}
	}
	return len(l.Scopes) <= 64 && (len(l.Scopes) > 0 || len(l.Slots) == 0)
}

func areSlots(l api.Locals) bool {
	for i, s := range l.Slots {
		if s.Stamp < 1 || s.Stamp > len(l.Issued) || l.Issued[s.Stamp-1] != i {
			return false
		}
		if i > 0 && s.Stamp <= l.Slots[i-1].Stamp {
			return false
		}
		if !s.Live && s.Ref != 0 || s.Live && s.Ref == 0 {
			return false
		}
	}
	return true
}

// fit counts the Live slots of each scope: the last one that begins before or
// with a slot is its scope.
func fit(l api.Locals) bool {
	live := make([]int, len(l.Scopes))
	for i, s := range l.Slots {
		of := 0
		for k := range l.Scopes {
			if l.Scopes[k].From <= i {
				of = k
			}
		}
		if s.Live {
			live[of]++
		}
	}
	for k, s := range l.Scopes {
		if live[k] > s.Cap {
			return false
		}
	}
	return true
}

// spoil changes something in locals, mostly a little.
func spoil(x *heaptest.Numbers, l *api.Locals) {
	by := x.Below(5) - 2
	pick := func(n int) int { return x.Below(max(n, 1)) }
	i, k, j := pick(len(l.Slots)), pick(len(l.Scopes)), pick(len(l.Issued))
	switch c := x.Below(10); {
	case c == 0 && i < len(l.Slots):
		l.Slots[i].Stamp += by
	case c == 1 && i < len(l.Slots):
		l.Slots[i].Live = !l.Slots[i].Live
	case c == 2 && i < len(l.Slots):
		l.Slots[i].Ref = uint64(x.Below(2))
	case c == 3 && i < len(l.Slots):
		l.Slots = slices.Delete(l.Slots, i, i+1)
	case c == 4 && k < len(l.Scopes):
		l.Scopes[k].From += by
	case c == 5 && k < len(l.Scopes):
		l.Scopes[k].Cap += by
	case c == 6 && k < len(l.Scopes):
		l.Scopes[k].Base = !l.Scopes[k].Base
	case c == 7 && k < len(l.Scopes):
		l.Scopes = slices.Delete(l.Scopes, k, k+1)
	case c == 8 && j < len(l.Issued):
		l.Issued[j] += by
	case j < len(l.Issued):
		l.Issued = l.Issued[:len(l.Issued)-1]
	}
}

// 14.1: irregular locals, in which something has been changed or not.
func TestValidOfIrregularLocals(t *testing.T) {
	counts := map[bool]int{}
	for seed := range 4000 {
		x := heaptest.Numbers(seed + 1)
		p := play{t: t}
		for range 5 + x.Below(40) {
			p.step(&x)
		}
		l := copied(p.l)
		for range x.Below(4) {
			spoil(&x, &l)
		}
		want := isValid(l)
		if scope.Valid(l) != want {
			t.Fatalf("Valid of %v is %v", l, !want)
		}
		counts[want]++
		checkUseless(t, l, !want)
	}
	if counts[true] < 500 || counts[false] < 500 {
		t.Errorf("valid or not: %v", counts)
	}
}

// checkUseless checks that all calls return ErrArg for locals that are not
// valid, and that none does so for others.
func checkUseless(t *testing.T, l api.Locals, useless bool) {
	t.Helper()
	move := func(l api.Locals) (api.Locals, api.Errno) { return scope.Move(l, liveRefs(l)) }
	var index, stamp int
	for k, do := range []call{entering(1), pushing(1), scope.Leave, scope.Pop, making(1, &index, &stamp), deleting(0, 1), move} {
		if _, e := after(t, l, do); (e == api.ErrArg) != useless {
			t.Fatalf("call %d with %v: error %d", k, l, e)
		}
	}
	if useless && (index != 0 || stamp != 0) {
		t.Fatalf("New with %v: index %d, stamp %d", l, index, stamp)
	}
	if ref, e := got(t, l, 0, 1); (e == api.ErrArg) != useless || e != api.OK && ref != 0 {
		t.Fatalf("Get with %v: %d, error %d", l, ref, e)
	}
	if list := refs(t, l); useless && len(list) != 0 || !useless && !slices.Equal(list, liveRefs(l)) {
		t.Fatalf("Refs of %v: %v", l, list)
	}
}

// liveRefs returns the Refs of the Live slots, valid or not.
func liveRefs(l api.Locals) []uint64 {
	var list []uint64
	for _, s := range l.Slots {
		if s.Live {
			list = append(list, s.Ref)
		}
	}
	return list
}

// 14.2: ErrArg first, also where other errors apply.
func TestInvalidLocals(t *testing.T) {
	for _, l := range invalid() {
		checkUseless(t, l, true)
		var index, stamp int
		for k, do := range []call{entering(65), pushing(-1), making(0, &index, &stamp), deleting(-1, 0), deleting(1, 2), moving(), moving(0)} {
			if _, e := after(t, l, do); e != api.ErrArg || index != 0 || stamp != 0 {
				t.Errorf("call %d with %v: error %d", k, l, e)
			}
		}
	}
	for _, l := range alsoValid() {
		checkUseless(t, l, false)
	}
}
