package bound_test

import (
	"math"
	"slices"
	"testing"

	"semispace/api"
	"semispace/audit"
	"semispace/bound"
	"semispace/collect"
	"semispace/heaptest"
	"semispace/page"
)

type scene = heaptest.Scene
type thing = heaptest.Thing

// measured is Measure. It checks that the call leaves its arguments as they
// are, and that the result is zero together with an error.
func measured(t *testing.T, h api.Heap, strong []uint64) (bound.Live, api.Errno) {
	t.Helper()
	h, roots, same := heaptest.Guarded(h, strong)
	l, e := bound.Measure(h, roots[0])
	if !same() {
		t.Fatal("the arguments have changed")
	}
	if e != api.OK && l != (bound.Live{}) {
		t.Fatalf("%v with error %d", l, e)
	}
	return l, e
}

// liveOf is what Measure is to say of a scene, in which roots are references to
// things.
func liveOf(s scene, roots []uint64) bound.Live {
	var l bound.Live
	for _, i := range s.Pinned {
		if !slices.ContainsFunc(s.Things, func(x thing) bool { return x.Page == i && s.Large(x) }) {
			l.Pinned++
		}
	}
	for _, ref := range s.Reached(roots) {
		x := s.Things[ref-1]
		l.Objects++
		l.Words += x.Size()
		if s.Large(x) {
			l.Large += int(math.Ceil(float64(x.Size()) / float64(s.Conf.PageWords)))
		} else if !s.Stays(x) {
			l.Small += x.Size()
		}
	}
	return l
}

// measure is Measure in the heap of a scene. It checks the result against the
// model, and against what a collection leaves.
func measure(t *testing.T, s scene, roots []uint64) bound.Live {
	t.Helper()
	h, strong := s.Heap(), heaptest.ValuesOf(s.Addresses(), roots)
	if f := audit.Check(h); f != (audit.Finding{}) {
		t.Fatalf("a heap of the tests has the finding %v", f)
	}
	l, e := measured(t, h, strong)
	if want := liveOf(s, roots); l != want || e != api.OK {
		t.Fatalf("roots %v: %+v, want %+v, error %d", roots, l, want, e)
	}
	leaves(t, h, strong, l)
	return l
}

// leaves checks 13.1 and 13.5: a collection leaves what l says, on at most Pages
// pages, and has at most as many steps as the arena has words.
func leaves(t *testing.T, h api.Heap, strong []uint64, l bound.Live) {
	t.Helper()
	after, roots, _, r, e := collect.Collect(h, strong, nil)
	if e != api.OK {
		return
	}
	bounds := bound.Pages(h.Conf, l)
	if n := page.InUse(after.Pages); n > bounds {
		t.Fatalf("%d pages are in use, but the bound is %d", n, bounds)
	}
	if r.Copied+r.Kept != l.Objects || r.Steps > len(h.Words) {
		t.Fatalf("the report is %+v, measured was %+v", r, l)
	}
	// What is left is all that is reachable.
	if again, e := measured(t, after, roots); again != l || e != api.OK {
		t.Fatalf("measured are %+v before and %+v after, error %d", l, again, e)
	}
	used := 0
	for _, p := range after.Pages {
		if p.Kind == api.SmallPage && p.Pins == 0 {
			used += p.Used
		}
	}
	if used != l.Small {
		t.Fatalf("%d words are copied, measured were %d", used, l.Small)
	}
}

// 13.1: roots in a heap with all kinds of pages, written out.
func TestMeasure(t *testing.T) {
	s := heaptest.Ordinary(1)
	for _, x := range []struct {
		roots []uint64
		want  bound.Live
	}{
		{nil, bound.Live{Pinned: 1}},
		{[]uint64{}, bound.Live{Pinned: 1}},
		{[]uint64{0}, bound.Live{Pinned: 1}},
		{[]uint64{0, 0, 0}, bound.Live{Pinned: 1}},
		{[]uint64{4}, bound.Live{Objects: 1, Words: 1, Small: 1, Pinned: 1}},
		{[]uint64{4, 4, 0, 4}, bound.Live{Objects: 1, Words: 1, Small: 1, Pinned: 1}},
		{[]uint64{1}, bound.Live{Objects: 2, Words: 6, Small: 6, Pinned: 1}},    // and 3
		{[]uint64{1, 3}, bound.Live{Objects: 2, Words: 6, Small: 6, Pinned: 1}}, // the same
		{[]uint64{9}, bound.Live{Objects: 1, Words: 3, Pinned: 1}},              // on the pinned page
		{[]uint64{10}, bound.Live{Objects: 2, Words: 5, Pinned: 1}},             // and 9
		{[]uint64{8}, bound.Live{Objects: 2, Words: 7, Small: 4, Pinned: 1}},    // and 6
		{[]uint64{6}, bound.Live{Objects: 2, Words: 7, Small: 4, Pinned: 1}},    // the same by a cycle
		{[]uint64{13}, bound.Live{Objects: 1, Words: 16, Large: 1, Pinned: 1}},  // large, with pins
		{[]uint64{12}, bound.Live{Objects: 3, Words: 21, Small: 5, Large: 1, Pinned: 1}},
		{[]uint64{7}, bound.Live{Objects: 4, Words: 29, Small: 6, Large: 2, Pinned: 1}},
		{[]uint64{13, 7, 0, 5}, bound.Live{Objects: 6, Words: 46, Small: 7, Large: 3, Pinned: 1}},
		{[]uint64{12, 10, 8, 7, 5, 4}, bound.Live{Objects: 12, Words: 61, Small: 17, Large: 3, Pinned: 1}},
	} {
		if got := measure(t, s, x.roots); got != x.want {
			t.Errorf("roots %v: %+v, want %+v", x.roots, got, x.want)
		}
	}
	for a := range uint64(14) {
		for b := range uint64(14) {
			if a != 2 && b != 2 { // the Filler
				measure(t, s, []uint64{a, b})
			}
		}
	}
}

// 13.1: new heaps.
func TestMeasureNothing(t *testing.T) {
	for _, c := range []api.Conf{heaptest.Conf, heaptest.Wide, {PageWords: 20, Pages: 63}} {
		h, _ := page.New(c)
		for _, strong := range [][]uint64{nil, {}, {0}, {0, 0}} {
			if l, e := measured(t, h, strong); l != (bound.Live{}) || e != api.OK {
				t.Errorf("%v: %+v, error %d", c, l, e)
			}
		}
		fails(t, h, []uint64{4096}, api.ErrCorrupt)
	}
}

// 13.1: SmallPages with pins count even if nothing is on them, up to as many as
// there may be. LargePages with pins do not.
func TestMeasurePinnedPages(t *testing.T) {
	for _, c := range []api.Conf{heaptest.Conf, {PageWords: 16, Pages: 11}, {PageWords: 16, Pages: 12}, heaptest.Wide} {
		s := scene{Conf: c}
		for i := range c.Pages / 4 {
			s.Pinned = append(s.Pinned, 2*i, 2*i+1)
			s.Things = append(s.Things, heaptest.Words(2*i+1, make([]uint64, c.PageWords-1)...))
			if i%2 == 0 {
				s.Empty = append(s.Empty, 2*i)
			} else {
				s.Things = append(s.Things, heaptest.Words(2*i), heaptest.Filler(2*i, 1), heaptest.Refs(2*i, uint64(len(s.Things))))
			}
		}
		if got := measure(t, s, nil); got != (bound.Live{Pinned: c.Pages / 4}) {
			t.Errorf("%v: %+v", c, got)
		}
		want := bound.Live{Objects: 1, Words: c.PageWords, Large: 1, Pinned: c.Pages / 4}
		if got := measure(t, s, []uint64{1}); got != want {
			t.Errorf("%v: %+v, want %+v", c, got, want)
		}
		want = bound.Live{Objects: 3, Words: c.PageWords + 3, Large: 1, Pinned: c.Pages / 4}
		if got := measure(t, s, []uint64{5, 3}); got != want { // 5 refers to the second large object
			t.Errorf("%v: %+v, want %+v", c, got, want)
		}
		h := s.Heap()
		h.Pages[c.Pages/2].Kind, h.Pages[c.Pages/2].Pins = api.SmallPage, 1
		fails(t, h, nil, api.ErrCorrupt)
	}
}

// 13.1: large objects of one to four pages, with the least and the most words.
func TestMeasureLargeObjects(t *testing.T) {
	for _, n := range []int{16, 20, 64} {
		for k := 1; k <= 4; k++ {
			for _, size := range []int{max(n*(k-1), n/4) + 1, n * k} {
				s := scene{Conf: api.Conf{PageWords: n, Pages: 12}, Things: []thing{
					heaptest.Words(0, 1), heaptest.Refs(3, make([]uint64, size-1)...), heaptest.Words(3+k, make([]uint64, n/4)...),
				}}
				want := bound.Live{Objects: 1, Words: size, Large: k}
				if got := measure(t, s, []uint64{2}); got != want {
					t.Errorf("%d words on pages of %d: %+v, want %+v", size, n, got, want)
				}
				s.Pinned = []int{3} // as a large object stays anyway, that makes no difference
				if got := measure(t, s, []uint64{2, 2}); got != want {
					t.Errorf("%d words on pages of %d: %+v, want %+v", size, n, got, want)
				}
				if got := measure(t, s, []uint64{1, 3}); got != (bound.Live{Objects: 2, Words: n/4 + 3, Small: 2, Large: 1}) {
					t.Errorf("%d words on pages of %d: %+v", size, n, got)
				}
			}
		}
	}
}

// 13.1: objects of which each is reached by the one before it, and more and more
// objects on pages without free words.
func TestMeasureManyObjects(t *testing.T) {
	for _, n := range []int{1, 31, 32, 33, 512, 1024} {
		want := bound.Live{Objects: n, Words: 2 * n, Small: 2 * n}
		if got := measure(t, heaptest.List(n, false), []uint64{1}); got != want {
			t.Errorf("%+v, want %+v", got, want)
		}
		if got := measure(t, heaptest.List(n, true), []uint64{0, uint64(n)}); got != want {
			t.Errorf("%+v, want %+v", got, want)
		}
	}
	want := bound.Live{Objects: 64, Words: 4096, Large: 64}
	if got := measure(t, heaptest.AllUsed(), []uint64{9}); got != want {
		t.Errorf("%+v, want %+v", got, want)
	}
	for _, size := range []int{1, 2, 3, 7, 15, 16} {
		s := scene{Conf: heaptest.Wide}
		var roots []uint64
		for k := range 64 / size * 3 {
			s.Things = append(s.Things, heaptest.Words(k/(64/size), make([]uint64, size-1)...))
			roots = append(roots, uint64(k+1))
		}
		for n := 0; n <= len(roots); n += 1 + n/3 {
			if got := measure(t, s, roots[:n]); got != (bound.Live{Objects: n, Words: n * size, Small: n * size}) {
				t.Errorf("%d of %d words: %+v", n, size, got)
			}
		}
	}
}

// 13.1 and 13.5: irregular roots in irregular heaps, also where there is no room
// for a collection.
func TestMeasureIrregularHeaps(t *testing.T) {
	var sum bound.Live
	for seed := range 500 {
		x := heaptest.Numbers(seed + 1)
		s := x.Scene()
		l := measure(t, s, x.Refs(s, x.Below(10)))
		sum.Objects, sum.Words, sum.Small = sum.Objects+l.Objects, sum.Words+l.Words, sum.Small+l.Small
		sum.Large, sum.Pinned = sum.Large+l.Large, sum.Pinned+l.Pinned
	}
	if min(sum.Objects, sum.Words, sum.Small, sum.Large, sum.Pinned) < 400 {
		t.Errorf("hardly any of one kind: %+v", sum)
	}
}

// fails checks an error of Measure.
func fails(t *testing.T, h api.Heap, strong []uint64, want api.Errno) {
	t.Helper()
	if _, e := measured(t, h, strong); e != want {
		t.Fatalf("roots %v: error %d, want %d", strong, e, want)
	}
}

// 13.1: the errors, in their order.
func TestMeasureErrors(t *testing.T) {
	h := heaptest.Ordinary(0).Heap()
	good := []uint64{4096, 0, 4112, 4144, 4192, 4102}
	for _, bad := range append(heaptest.NoObjects(), 4160) {
		for k := range len(good) + 1 {
			fails(t, h, slices.Insert(slices.Clone(good), k, bad), api.ErrCorrupt)
		}
	}
	fails(t, h, good, api.OK)
	for _, h := range heaptest.NotProper() {
		for _, l := range [][]uint64{nil, {4096}, {4097}} {
			fails(t, h, l, api.ErrArg)
		}
		for i := range h.Words {
			h.Words[i] = 1
		}
		fails(t, h, []uint64{4096}, api.ErrArg)
	}
	fails(t, heaptest.Crowded(), good, api.OK)
	for _, h := range heaptest.NotGood() {
		for _, l := range [][]uint64{nil, {0}, {4096}, {4097}, {4112, 4144, 4176}} {
			fails(t, h, l, api.ErrCorrupt)
		}
	}
}
