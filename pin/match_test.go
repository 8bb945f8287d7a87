package pin_test

import (
	"cmp"
	"math"
	"slices"
	"testing"

	"semispace/api"
	"semispace/audit"
	"semispace/heaptest"
	"semispace/walk"
)

// list is the heap of n objects, of which 32 are on each page, and its pins:
// one of each object, in irregular order.
func list(n int) state {
	s := heaptest.List(n, false)
	var pins []api.Pin
	for k := range n {
		pins = append(pins, one(s.Addresses()[(k*17+3)%n]))
	}
	return fits(s.Heap(), pins...)
}

// notMatching are states whose heaps are good, but whose pins do not match, most
// of them in one thing.
func notMatching() []state {
	h := heaptest.Ordinary(0).Heap()
	l := []state{list(65), with(fits(h), 0, 1, one(0)), with(fits(h, one(4096)), 0, 2, one(4096), api.Pin{Count: 2})}
	for _, ref := range append(heaptest.NoObjects(), 0) {
		l = append(l, fits(h, one(ref)), fits(h, one(4144), one(ref)), fits(h, one(ref), one(4192)))
	}
	for _, ref := range []uint64{4096, 4106, 4112, 4144, 4150, 4192} {
		l = append(l, fits(h, one(ref), one(ref)), fits(h, one(ref), one(4147), api.Pin{Ref: ref, Count: 2}))
		for _, n := range []int{0, 1001, 1002, math.MaxInt32 - 1} {
			l = append(l, fits(h, api.Pin{Ref: ref, Count: n}), fits(h, one(4147), api.Pin{Ref: ref, Count: n}))
		}
	}
	for _, n := range []int{-1, -2, math.MinInt32} { // the sum is 0 or 1
		a, b, c := api.Pin{Ref: 4144, Count: n}, api.Pin{Ref: 4147, Count: -n}, api.Pin{Ref: 4150, Count: 1 - n}
		l = append(l, fits(h, b, a), fits(h, a, c))
	}
	huge := api.Pin{Ref: 4144, Count: math.MaxInt} // the sum wraps around
	l = append(l, fits(h, huge, api.Pin{Ref: 4147, Count: 3}, api.Pin{Ref: 4150, Count: math.MaxInt}))
	for _, s := range []state{ordinary(), fits(h)} {
		for i, p := range h.Pages { // one too many or too few
			if p.Kind == api.FreePage || p.Kind == api.TailPage {
				continue
			}
			for _, n := range []int{-1, 1} {
				if c := copied(s); c.heap.Pages[i].Pins+n >= 0 {
					c.heap.Pages[i].Pins += n
					l = append(l, c)
				}
			}
		}
	}
	moved := ordinary() // the sum of all pages is right
	moved.heap.Pages[3].Pins--
	moved.heap.Pages[6].Pins++
	return append(l, moved)
}

// notCrowded are the heaps of heaptest.NotGood without those that have too many
// pages with pins.
func notCrowded() []api.Heap {
	l := heaptest.NotGood()
	return l[:len(l)-2]
}

// notGood are states whose heaps are not good, but whose pins would match.
func notGood() []state {
	l := []state{fits(heaptest.Ordinary(0).Heap(), one(4096), one(4144), one(4176))} // a crowd
	for _, h := range notCrowded() {
		s := fits(h, api.Pin{Ref: 4147, Count: 2}, one(4192))
		s.heap.Pages[7].Pins = 0
		l = append(l, s, fits(h))
	}
	for _, h := range heaptest.NotProper() {
		l = append(l, state{h, nil}, state{h, ordinary().pins})
	}
	return l
}

// corrupt are all of them.
func corrupt() []state { return append(notGood(), notMatching()...) }

// 17.1: each condition.
func TestMatchConditions(t *testing.T) {
	for k, s := range corrupt() {
		if matches(t, s) {
			t.Errorf("%d: they match: %v", k, s)
		}
	}
	for k, s := range notMatching() {
		if f := audit.Check(s.heap); f != (audit.Finding{}) {
			t.Errorf("%d: the heap is not good: %v in %v", k, f, s)
		}
	}
}

// 17.1: pins that match, among them those with values next to the limits.
func TestMatch(t *testing.T) {
	h := heaptest.Ordinary(0).Heap()
	l := []state{ordinary(), fits(h), list(0), list(1), list(63), list(64)}
	for _, ref := range walkObjects(t, h) {
		for _, n := range []int{1, 2, 999, 1000} {
			l = append(l, fits(h, api.Pin{Ref: ref, Count: n}))
			if ref != 4147 {
				l = append(l, fits(h, api.Pin{Ref: ref, Count: n}, api.Pin{Ref: 4147, Count: 1000}))
			}
		}
	}
	l = append(l, fits(h, one(4096), one(4106), one(4104), one(4192), one(4144), one(4112))) // as many pages as may be
	for k, s := range l {
		if !matches(t, s) {
			t.Errorf("%d: %v do not match", k, s)
		}
		back := copied(s)
		slices.Reverse(back.pins)
		if !matches(t, back) {
			t.Errorf("%d: %v do not match in reverse", k, s.pins)
		}
	}
	full := list(64)
	for k := range full.pins {
		full.pins[k].Count = 1000
	}
	if full = fits(full.heap, full.pins...); !matches(t, full) {
		t.Errorf("%v do not match", full.pins)
	}
}

// walkObjects are the addresses of all objects.
func walkObjects(t *testing.T, h api.Heap) []uint64 {
	t.Helper()
	l, e := walk.Objects(h)
	if e != api.OK {
		t.Fatalf("error %d", e)
	}
	return l
}

// belongs is Match, from the words of 17.1.
func belongs(s state) bool {
	if !audit.Good(s.heap) || len(s.pins) > 64 {
		return false
	}
	sum := make([]int, len(s.heap.Pages))
	sorted := slices.Clone(s.pins)
	slices.SortFunc(sorted, func(a, b api.Pin) int { return cmp.Compare(a.Ref, b.Ref) })
	for k, p := range sorted {
		if p.Count <= 0 || p.Count > 1000 || !walk.IsObject(s.heap, p.Ref) || k > 0 && sorted[k-1].Ref == p.Ref {
			return false
		}
		sum[(p.Ref-4096)/uint64(s.heap.Conf.PageWords)] += p.Count
	}
	return slices.EqualFunc(sum, s.heap.Pages, func(n int, p api.Page) bool { return n == p.Pins })
}

// spoil changes a state that matches, mostly in one thing.
func spoil(x *heaptest.Numbers, s *state) {
	n := len(s.pins)
	switch x.Below(8) {
	case 0:
		x.Spoil(&s.heap)
	case 1, 2:
		s.heap.Pages[x.Below(len(s.heap.Pages))].Pins += x.Below(3) - 1
	case 3:
		if n > 0 {
			s.pins[x.Below(n)].Count += x.Below(3) - 1
		}
	case 4:
		if n > 0 {
			s.pins[x.Below(n)].Ref += uint64(x.Below(3)) - 1
		}
	case 5:
		if n > 0 {
			s.pins[x.Below(n)].Ref = s.pins[x.Below(n)].Ref
		}
	case 6:
		if n > 0 {
			s.pins = slices.Delete(s.pins, 0, x.Below(2))
		}
	}
}

// 17.1: irregular pins in irregular heaps.
func TestMatchIrregular(t *testing.T) {
	results := map[bool]int{}
	for seed := range 3000 {
		x := heaptest.Numbers(seed + 1)
		s := irregular(&x).state()
		for range x.Below(3) {
			spoil(&x, &s)
		}
		ok := matches(t, s)
		results[ok]++
		if ok != belongs(s) {
			t.Fatalf("%v: %v", s, ok)
		}
	}
	if min(results[true], results[false]) < 500 {
		t.Errorf("hardly any of one kind: %v", results)
	}
}
