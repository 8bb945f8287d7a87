package evacuate

import (
	"math"
	"slices"
	"testing"

	"semispace/api"
	"semispace/audit"
	"semispace/object"
	"semispace/page"
	"semispace/walk"
)

// begin returns the Work for a heap, and checks that the heap stays as it is
// and shares no memory with the result.
func begin(t *testing.T, h api.Heap) Work {
	t.Helper()
	arg := copyOfWork(Work{Heap: h}, true)
	before := copyOfWork(whole(arg), false)
	got, e := Begin(arg.Heap)
	w := copyOfWork(got, false)
	overwrite(got)
	if !sameWork(whole(arg), before) {
		t.Fatal("Begin: the argument has changed, or the result shares its memory")
	}
	if e != api.OK {
		t.Fatalf("Begin: error %d", e)
	}
	return w
}

// forward is Forward, and checks that the argument stays as it is and shares no
// memory with the result, and that with an error the results are zero.
func forward(t *testing.T, w Work, ref uint64) (Work, uint64, api.Errno) {
	t.Helper()
	arg := copyOfWork(w, true)
	before := copyOfWork(whole(arg), false)
	got, addr, e := Forward(arg, ref)
	result := copyOfWork(got, false)
	overwrite(got)
	if !sameWork(whole(arg), before) {
		t.Fatalf("Forward of %d: the argument has changed, or the result shares its memory", ref)
	}
	if e != api.OK && (addr != 0 || !sameWork(result, Work{})) {
		t.Fatalf("Forward of %d: error %d with the results %d and %v", ref, e, addr, result)
	}
	return result, addr, e
}

// must is forward without an error, where the new address is known.
func must(t *testing.T, w Work, ref, want uint64) Work {
	t.Helper()
	w, addr, e := forward(t, w, ref)
	if addr != want || e != api.OK {
		t.Fatalf("Forward of %d: %d, error %d, want %d", ref, addr, e, want)
	}
	return w
}

// fails checks that Forward has this error.
func fails(t *testing.T, w Work, ref uint64, want api.Errno) {
	t.Helper()
	if _, _, e := forward(t, w, ref); e != want {
		t.Fatalf("Forward of %d: error %d, want %d", ref, e, want)
	}
}

// equal checks a Work.
func equal(t *testing.T, got, want Work) {
	t.Helper()
	if !sameWork(got, want) {
		t.Fatalf("the Work is\n%v, want\n%v", got, want)
	}
}

func TestExamples(t *testing.T) {
	w := begin(t, ordinary(0))
	equal(t, must(t, w, 0, 0), w)
	once := must(t, w, 4104, 4160)
	twice := must(t, once, 4104, 4160)
	equal(t, twice, once)
	if twice.Report != (api.Report{Copied: 1}) {
		t.Errorf("%v", twice.Report)
	}
}

// 10.1: a Work with each kind of page.
func TestBegin(t *testing.T) {
	for space := range 2 {
		h := ordinary(space)
		w := begin(t, h)
		want := Work{Heap: h, Old: all}
		want.Heap.Pages = slices.Clone(h.Pages)
		want.Heap.Pages[3].Space = 1 - space
		equal(t, w, want)
		if w.Heap.Space != space || w.Heap.Bump != 0 || w.Heap.Pages[3] != (api.Page{Kind: api.SmallPage, Space: 1 - space, Used: 7, Pins: 1}) {
			t.Errorf("%v", w.Heap)
		}
	}
}

// 10.1: heaps without pins, without objects, and with all pins that there may be.
func TestBeginOfOtherHeaps(t *testing.T) {
	for _, c := range []api.Conf{conf, wide, {PageWords: 20, Pages: 11}} {
		for space := range 2 {
			h := empty(c, space)
			equal(t, begin(t, h), Work{Heap: h})
			for i := range h.Pages {
				small(&h, i, words(1))
			}
			h.Bump = c.Pages - 1
			w := begin(t, h)
			if !sameHeap(w.Heap, h) || len(w.Old) != c.Pages {
				t.Errorf("%v", w)
			}
			for k, pins := range slices.Repeat([]int{1, math.MaxInt32}, 8)[:c.Pages/4] {
				h.Pages[c.Pages-1-2*k].Pins = pins
			}
			w = begin(t, h)
			for i, p := range h.Pages {
				if p.Pins > 0 {
					p.Space = 1 - space
				}
				if w.Heap.Pages[i] != p || Promoted(w, i) != (p.Pins > 0) {
					t.Errorf("page %d: %v, %t", i, w.Heap.Pages[i], Promoted(w, i))
				}
			}
		}
	}
}

// improper are changes after which a heap of ordinary is not proper.
var improper = []func(h *api.Heap){
	func(h *api.Heap) { *h = api.Heap{} },
	func(h *api.Heap) { h.Conf.PageWords = 20 },
	func(h *api.Heap) { h.Conf.Pages = math.MinInt },
	func(h *api.Heap) { h.Words = h.Words[:127] },
	func(h *api.Heap) { h.Pages = nil },
	func(h *api.Heap) { h.Space = 2 },
	func(h *api.Heap) { h.Space = math.MinInt },
	func(h *api.Heap) { h.Bump = 1 },
	func(h *api.Heap) { h.Pages[0].Used = 17 },
	func(h *api.Heap) { h.Pages[1].Used = math.MaxInt },
	func(h *api.Heap) { h.Pages[2] = api.Page{} },
	func(h *api.Heap) { h.Pages[3].Pins = -1 },
	func(h *api.Heap) { h.Pages[3].Pins = math.MaxInt32 + 1 },
	func(h *api.Heap) { h.Pages[4].Used = 1 },
	func(h *api.Heap) { h.Pages[5].Space = -1 },
	func(h *api.Heap) { h.Pages[7].Kind = 4 },
}

// corrupt are changes after which a heap of ordinary is proper, but not good.
var corrupt = []func(h *api.Heap){
	func(h *api.Heap) { h.Space = 1 - h.Space },
	func(h *api.Heap) { h.Pages[3].Space = 1 - h.Space }, // as if a collection had begun
	func(h *api.Heap) { h.Pages[6].Space = 1 - h.Space },
	func(h *api.Heap) { h.Words[0] = 16386 }, // a forwarding word
	func(h *api.Heap) { h.Words[48] = 0 },
	func(h *api.Heap) { h.Pages[0].Used = 11 },
	func(h *api.Heap) { h.Words[84] = 1 + 3<<2 + 7<<4 }, // a small object of eight words
	func(h *api.Heap) { h.Words[64] = 1 },
	func(h *api.Heap) { h.Words[4] = 1 },
	func(h *api.Heap) { h.Words[2] = 4105 },
	func(h *api.Heap) { h.Words[49] = 4146 },
	func(h *api.Heap) { h.Pages[0].Pins, h.Pages[5].Pins = 1, 1 },
}

// 10.1: the errors of Begin, alone and together.
func TestBeginErrors(t *testing.T) {
	bad := func(h api.Heap, want api.Errno) {
		t.Helper()
		before := copyOf(h)
		if w, e := Begin(h); e != want || !sameWork(w, Work{}) {
			t.Errorf("Begin: error %d, want %d; %v", e, want, w)
		}
		if !sameHeap(h, before) {
			t.Error("Begin: the argument has changed")
		}
	}
	for space := range 2 {
		for _, f := range improper {
			h := ordinary(space)
			f(&h)
			bad(h, api.ErrArg)
			for _, other := range corrupt {
				h := ordinary(space)
				other(&h)
				f(&h)
				bad(h, api.ErrArg)
			}
		}
		for _, f := range corrupt {
			h := ordinary(space)
			f(&h)
			bad(h, api.ErrCorrupt)
		}
	}
	// As many pinned SmallPages as there may be are no error, and one more is.
	h := ordinary(1)
	h.Pages[0].Pins = 1
	begin(t, h)
	h.Pages[5].Pins = 1
	bad(h, api.ErrCorrupt)
}

// 10.1: each page before and after copies, and numbers that no page has.
func TestPromoted(t *testing.T) {
	for space := range 2 {
		w := begin(t, ordinary(space))
		for _, ref := range append([]uint64{0}, all...) {
			w, _, _ = forward(t, w, ref)
			for i := range w.Heap.Pages {
				if Promoted(w, i) != (i == 3) {
					t.Errorf("space %d, after %d: page %d: %t", space, ref, i, i != 3)
				}
			}
			for _, i := range []int{-1, -2, 8, 9, 100, math.MinInt, math.MaxInt} {
				if Promoted(w, i) {
					t.Errorf("page %d", i)
				}
			}
		}
		if !slices.Equal(w.Taken, []int{4, 7}) {
			t.Errorf("Taken %v", w.Taken)
		}
	}
	if Promoted(Work{}, 0) || Promoted(Work{}, -1) {
		t.Error("a zero Work")
	}
}

// 10.2: the null reference, before, during and after copies.
func TestForwardNull(t *testing.T) {
	w := begin(t, ordinary(1))
	for _, ref := range all {
		equal(t, must(t, w, 0, 0), w)
		w, _, _ = forward(t, w, ref)
	}
	equal(t, must(t, w, 0, 0), w)
	empty := begin(t, empty(conf, 0))
	equal(t, must(t, empty, 0, 0), empty)
}

// 10.2: what is not an object and not in the queue.
func TestForwardNoObject(t *testing.T) {
	w := begin(t, ordinary(0))
	for _, ref := range noObjects {
		fails(t, w, ref, api.ErrCorrupt)
	}
	for ref := uint64(4000); ref < 4300; ref++ {
		if !slices.Contains(all, ref) {
			fails(t, w, ref, api.ErrCorrupt)
		}
	}
	none := begin(t, empty(conf, 0))
	for _, ref := range append(noObjects, all...) {
		fails(t, none, ref, api.ErrCorrupt)
	}
	// With copies, their addresses are references, but nothing else is.
	for _, ref := range all {
		w, _, _ = forward(t, w, ref)
	}
	for ref := uint64(4000); ref < 4300; ref++ {
		if !slices.Contains(all, ref) && !slices.Contains(w.Queue, ref) {
			fails(t, w, ref, api.ErrCorrupt)
		}
	}
}

// 10.2: what has been seen, by its old and its new address.
func TestForwardSeen(t *testing.T) {
	for space := range 2 {
		w := begin(t, ordinary(space))
		news := map[uint64]uint64{}
		for _, ref := range all {
			w, news[ref], _ = forward(t, w, ref)
			for old, addr := range news {
				equal(t, must(t, w, old, addr), w)
				equal(t, must(t, w, addr, addr), w)
			}
		}
		if len(w.Queue) != len(all) {
			t.Errorf("Queue %v", w.Queue)
		}
	}
}

// 10.2: the new address does not depend on the fields of the copy, which a scan
// changes.
func TestForwardAfterScan(t *testing.T) {
	w := must(t, begin(t, ordinary(0)), 4096, 4160)
	w.Heap, _ = object.SetField(w.Heap, 4160, 1, 4163)
	w.Scanned, w.Report.Steps = 1, 2
	equal(t, must(t, w, 4096, 4160), w)
	next := must(t, w, 4104, 4163)
	if next.Scanned != 1 || next.Report != (api.Report{Copied: 2, Steps: 2}) || next.Heap.Words[66] != 4163 {
		t.Errorf("%v", next)
	}
}

// 10.2: objects on a promoted page.
func TestForwardPromoted(t *testing.T) {
	for space := range 2 {
		w := begin(t, ordinary(space))
		want := copyOfWork(w, false)
		want.Queue, want.Report.Kept = []uint64{4148}, 1
		w = must(t, w, 4148, 4148)
		equal(t, w, want)
		want.Queue, want.Report.Kept = []uint64{4148, 4144}, 2
		w = must(t, w, 4144, 4144)
		equal(t, w, want)
		fails(t, w, 4146, api.ErrCorrupt) // a Filler on this page
	}
}

// 10.2: large objects, pinned or not.
func TestForwardLarge(t *testing.T) {
	for space := range 2 {
		w := begin(t, ordinary(space))
		want := copyOfWork(w, false)
		want.Queue, want.Report.Kept = []uint64{4112}, 1
		want.Heap.Pages[1].Space, want.Heap.Pages[2].Space = 1-space, 1-space
		w = must(t, w, 4112, 4112)
		equal(t, w, want)
		want.Queue, want.Report.Kept = []uint64{4112, 4192}, 2
		want.Heap.Pages[6].Space = 1 - space
		w = must(t, w, 4192, 4192)
		equal(t, w, want)
	}
}

// 10.2: large objects of each number of pages beside each other.
func TestForwardLargeOfEachSize(t *testing.T) {
	for _, n := range []int{4, 15, 16, 31, 32, 47, 48, 63} {
		h := empty(api.Conf{PageWords: 16, Pages: 64}, 1)
		k := n/16 + 1
		large(&h, 0, words(n))
		large(&h, k, refs(n))
		large(&h, 2*k, words(n))
		large(&h, 64-k, words(n))
		for _, i := range []int{0, k, 2 * k, 64 - k} {
			ref := uint64(4096 + 16*i)
			w := must(t, begin(t, h), ref, ref)
			for j, p := range h.Pages {
				if j >= i && j < i+k {
					p.Space = 0
				}
				if w.Heap.Pages[j] != p {
					t.Errorf("%d fields, on page %d: page %d is %v", n, i, j, w.Heap.Pages[j])
				}
			}
		}
	}
}

// 10.2: copies, page by page.
func TestForwardCopies(t *testing.T) {
	for space := range 2 {
		w := begin(t, ordinary(space))
		words := slices.Clone(w.Heap.Words)
		for k, x := range []struct {
			ref, to     uint64
			size        int
			taken       []int
			used, other int // of pages 4 and 7
		}{
			{4184, 4160, 4, []int{4}, 4, 0},
			{4103, 4164, 1, []int{4}, 5, 0},
			{4096, 4165, 3, []int{4}, 8, 0},
			{4104, 4168, 4, []int{4}, 12, 0},
			{4188, 4172, 4, []int{4}, 16, 0}, // up to the last word of the page
			{4176, 4208, 4, []int{4, 7}, 16, 4},
			{4180, 4212, 4, []int{4, 7}, 16, 8},
		} {
			copy(words[x.to-4096:][:x.size], words[x.ref-4096:])
			words[x.ref-4096] = 2 + 4*x.to
			want := copyOfWork(w, false)
			want.Heap.Words, want.Taken, want.Queue = words, x.taken, append(want.Queue, x.to)
			want.Report.Copied = k + 1
			want.Heap.Pages[4] = api.Page{Kind: api.SmallPage, Space: 1 - space, Used: x.used}
			if x.other > 0 {
				want.Heap.Pages[7] = api.Page{Kind: api.SmallPage, Space: 1 - space, Used: x.other}
			}
			w = must(t, w, x.ref, x.to)
			equal(t, w, want)
		}
	}
}

// 10.2: a copy that is one word too great for the page that was taken last, and
// smaller ones after it, which are not put on the pages before.
func TestForwardNextPage(t *testing.T) {
	h := empty(conf, 0)
	small(&h, 0, words(3), words(3), words(3), words(0))
	small(&h, 5, words(3), words(2), words(0), words(3))
	w := begin(t, h)
	for _, x := range []struct {
		ref, to     uint64
		taken, used []int
	}{
		{4096, 4112, []int{1}, []int{4}},
		{4100, 4116, []int{1}, []int{8}},
		{4104, 4120, []int{1}, []int{12}},
		{4108, 4124, []int{1}, []int{13}},
		{4176, 4128, []int{1, 2}, []int{13, 4}}, // 3 words are left
		{4180, 4132, []int{1, 2}, []int{13, 7}},
		{4183, 4135, []int{1, 2}, []int{13, 8}},
		{4184, 4136, []int{1, 2}, []int{13, 12}},
	} {
		w = must(t, w, x.ref, x.to)
		if !slices.Equal(w.Taken, x.taken) {
			t.Fatalf("%d: Taken %v, want %v", x.ref, w.Taken, x.taken)
		}
		for k, i := range x.taken {
			if w.Heap.Pages[i].Used != x.used[k] {
				t.Fatalf("%d: page %d: %v", x.ref, i, w.Heap.Pages[i])
			}
		}
	}
}

// 10.2: copies up to the last word of a page, and of one to three words more.
func TestForwardExactFit(t *testing.T) {
	for last := 1; last <= 4; last++ { // the words of the last object
		for first := 1; first <= 4; first++ {
			h := empty(conf, 1)
			small(&h, 0, words(first-1), words(3), words(3), words(3))
			small(&h, 1, words(last-1))
			w := begin(t, h)
			for _, ref := range []uint64{4096, 4096 + uint64(first), 4100 + uint64(first), 4104 + uint64(first)} {
				w = must(t, w, ref, ref+32)
			}
			to := uint64(4128 + 12 + first)
			if last+first > 4 {
				to = 4144
			}
			if w = must(t, w, 4112, to); len(w.Taken) != 1+(last+first-1)/4 {
				t.Errorf("%d and %d: Taken %v", first, last, w.Taken)
			}
		}
	}
}

// full returns a heap without FreePages, except for the last n pages: five
// objects of four words and three of one word that are copied, two on a page
// with pins, and a large one.
func full(n int) api.Heap {
	h := empty(conf, 0)
	small(&h, 0, words(3), words(3), words(3), words(3))
	small(&h, 1, words(3), words(0), words(0), words(0))
	small(&h, 2, words(3), words(3))
	h.Pages[2].Pins = 1
	large(&h, 3, refs(20))
	for i := 5; i < 8-n; i++ {
		small(&h, i)
	}
	return h
}

// 10.2: without a FreePage nothing can be copied, but everything else can be
// done.
func TestForwardWithoutFreePages(t *testing.T) {
	w := begin(t, full(0))
	copied := []uint64{4096, 4100, 4104, 4108, 4112, 4116, 4117, 4118}
	for _, ref := range copied {
		fails(t, w, ref, api.ErrMemory)
	}
	w = must(t, w, 4128, 4128)
	w = must(t, w, 4144, 4144)
	w = must(t, w, 0, 0)
	w = must(t, w, 4128, 4128)
	w = must(t, w, 4132, 4132)
	for _, ref := range copied {
		fails(t, w, ref, api.ErrMemory)
	}
	for _, ref := range noObjects {
		if !slices.Contains(w.Old, ref) {
			fails(t, w, ref, api.ErrCorrupt)
		}
	}
	if w.Report != (api.Report{Kept: 3}) || len(w.Taken) != 0 {
		t.Errorf("%v, %v", w.Report, w.Taken)
	}
}

// 10.2: the page that was taken last is used up to its end before there is an
// error, also by smaller objects after it.
func TestForwardWithTheLastPage(t *testing.T) {
	w := begin(t, full(1))
	for k, ref := range []uint64{4116, 4096, 4100, 4104} {
		w = must(t, w, ref, []uint64{4208, 4209, 4213, 4217}[k])
	}
	fails(t, w, 4108, api.ErrMemory) // 3 words are left
	fails(t, w, 4112, api.ErrMemory)
	w = must(t, w, 4117, 4221)
	w = must(t, w, 4118, 4222)
	fails(t, w, 4112, api.ErrMemory)
	equal(t, must(t, w, 4104, 4217), w)
	equal(t, must(t, w, 4217, 4217), w)
	fails(t, w, 4119, api.ErrCorrupt)
	w = must(t, w, 4144, 4144)
	if w.Heap.Pages[7] != (api.Page{Kind: api.SmallPage, Space: 1, Used: 15}) || w.Report != (api.Report{Copied: 6, Kept: 1}) {
		t.Errorf("%v", w)
	}
	// With one more FreePage there is no error at all.
	more := begin(t, full(2))
	for _, ref := range more.Old {
		if _, _, e := forward(t, more, ref); e != api.OK {
			t.Errorf("%d: error %d", ref, e)
		}
		more, _, _ = forward(t, more, ref)
	}
}

// 10.2: FreePages are taken in ascending order, from the first to the last page.
func TestTakenPages(t *testing.T) {
	h := empty(conf, 1)
	for _, i := range []int{1, 3, 5, 6} {
		small(&h, i, words(3), words(3), words(3), words(3))
	}
	w := begin(t, h)
	for k, ref := range w.Old {
		w = must(t, w, ref, []uint64{4096, 4128, 4160, 4208}[k/4]+uint64(k%4*4))
	}
	if !slices.Equal(w.Taken, []int{0, 2, 4, 7}) {
		t.Errorf("%v", w.Taken)
	}
}

// 10.2 and 10.3: each sequence of three references in a heap, against the model.
func TestAllSequences(t *testing.T) {
	h := ordinary(1)
	values := append([]uint64{0, 4102, 4160, 4163, 4164}, all...)
	for _, a := range values {
		for _, b := range values {
			for _, c := range values {
				follow(t, h, []uint64{a, b, c})
			}
		}
	}
}

// follow forwards references one after the other, and compares each result with
// the model. What has an error is left out. It returns the numbers of the
// errors.
func follow(t *testing.T, h api.Heap, list []uint64) map[api.Errno]int {
	t.Helper()
	w := begin(t, h)
	want, news, _ := model(h, nil)
	equal(t, w, want)
	var seen []uint64
	errors := map[api.Errno]int{}
	for _, ref := range list {
		switch k := slices.Index(seen, ref); {
		case ref == 0 || slices.Contains(news, ref):
			w = must(t, w, ref, ref)
		case !slices.Contains(want.Old, ref):
			fails(t, w, ref, api.ErrCorrupt)
			errors[api.ErrCorrupt]++
		case k != -1:
			w = must(t, w, ref, news[k])
		default:
			next, l, ok := model(h, append(slices.Clone(seen), ref))
			if !ok {
				fails(t, w, ref, api.ErrMemory)
				errors[api.ErrMemory]++
				continue
			}
			want, news, seen = next, l, append(seen, ref)
			w = must(t, w, ref, news[len(news)-1])
		}
		equal(t, w, want)
		once(t, w, seen)
	}
	return errors
}

// once checks that the queue has each object that was seen exactly once, and
// that each copy is counted.
func once(t *testing.T, w Work, seen []uint64) {
	t.Helper()
	l := slices.Compact(slices.Sorted(slices.Values(w.Queue)))
	if len(l) != len(seen) || len(w.Queue) != len(seen) || w.Report.Kept+w.Report.Copied != len(seen) {
		t.Fatalf("Queue %v, Report %v, seen %v", w.Queue, w.Report, seen)
	}
	copies := 0
	for _, i := range w.Taken {
		on, e := walk.Page(w.Heap, i)
		if e != api.OK {
			t.Fatalf("page %d: error %d", i, e)
		}
		copies += len(on)
	}
	if copies != w.Report.Copied {
		t.Fatalf("%d copies, Report %v", copies, w.Report)
	}
}

// 10.2 and 10.3: irregular references in irregular heaps, against the model.
func TestIrregularHeaps(t *testing.T) {
	errors := map[api.Errno]int{}
	for seed := range 150 {
		x := numbers(seed + 1)
		h := x.irregular()
		if f := audit.Check(h); f != (audit.Finding{}) {
			t.Fatalf("seed %d: %v", seed, f)
		}
		objects := append(modelObjects(h), 0)
		var list []uint64
		for range 1 + x.below(60) {
			if x.below(12) == 0 {
				list = append(list, uint64(4090+x.below(len(h.Words)+12)))
				continue
			}
			list = append(list, objects[x.below(len(objects))])
		}
		for e, n := range follow(t, h, list) {
			errors[e] += n
		}
	}
	if errors[api.ErrCorrupt] < 20 || errors[api.ErrMemory] < 20 {
		t.Errorf("hardly any errors: %v", errors)
	}
}

// 10.3: all objects of the greatest heap, each forwarded three times.
func TestGreatHeap(t *testing.T) {
	h := empty(wide, 0)
	for i := range 28 {
		small(&h, i, slices.Repeat([]api.Header{words(i % 16)}, 64/(i%16+1))...)
	}
	for i := 28; i < 32; i++ {
		h.Pages[i%4].Pins = 1
		large(&h, i, words(63))
	}
	w := begin(t, h)
	seen := 0
	for range 3 {
		for _, ref := range slices.Backward(w.Old) {
			next, addr, e := Forward(w, ref)
			again, same, _ := Forward(next, ref)
			if e != api.OK || same != addr || len(again.Queue) != len(next.Queue) || !slices.Contains(next.Queue, addr) {
				t.Fatalf("%d: %d and %d, error %d", ref, addr, same, e)
			}
			w = next
		}
		if seen == 0 {
			seen = len(w.Queue)
		}
		if seen != len(w.Old) || len(w.Queue) != seen {
			t.Fatalf("%d objects, %d in the queue", len(w.Old), len(w.Queue))
		}
		once(t, w, w.Old)
	}
	if !page.Proper(w.Heap) {
		t.Error("the heap is not proper")
	}
}

// R5: calls on one Work do not disturb each other.
func TestForks(t *testing.T) {
	w := must(t, begin(t, ordinary(0)), 4096, 4160)
	w.Queue = append(make([]uint64, 0, 20), w.Queue...) // with room for more
	w.Taken = append(make([]int, 0, 20), w.Taken...)
	a, x, _ := Forward(w, 4104)
	b, y, _ := Forward(w, 4176)
	c, z, _ := Forward(w, 4103)
	if x != 4163 || y != 4163 || z != 4163 {
		t.Errorf("%d, %d and %d", x, y, z)
	}
	for k, got := range []Work{a, b, c} {
		want, _, _ := model(ordinary(0), []uint64{4096, []uint64{4104, 4176, 4103}[k]})
		equal(t, got, want)
	}
}

// R1: Works that no call returns.
func TestStrangeWorks(t *testing.T) {
	if _, addr, e := Forward(Work{}, 0); addr != 0 || e != api.OK {
		t.Errorf("%d, error %d", addr, e)
	}
	if _, _, e := Forward(Work{}, 4096); e != api.ErrCorrupt {
		t.Errorf("error %d", e)
	}
	changes := []func(w *Work){
		func(w *Work) { w.Taken = []int{-1} },
		func(w *Work) { w.Taken = []int{4, 8} },
		func(w *Work) { w.Taken = []int{math.MinInt, math.MaxInt} },
		func(w *Work) { w.Taken = []int{1} }, // a LargePage
		func(w *Work) { w.Taken = []int{2} },
		func(w *Work) { w.Taken = []int{4} }, // a FreePage
		func(w *Work) { w.Taken = []int{5} },
		func(w *Work) { w.Taken, w.Heap.Pages[4] = []int{4}, api.Page{Kind: 1, Used: math.MaxInt} },
		func(w *Work) { w.Taken, w.Heap.Pages[4] = []int{4}, api.Page{Kind: 1, Used: math.MinInt} },
		func(w *Work) { w.Old = append(w.Old, noObjects...) },
		func(w *Work) { w.Queue = append(w.Queue, noObjects...) },
		func(w *Work) { w.Heap.Words = nil },
		func(w *Work) { w.Heap.Words[0], w.Heap.Words[48] = 2, 4 },
		func(w *Work) { w.Heap.Conf = api.Conf{PageWords: 16, Pages: 64} },
		func(w *Work) { w.Scanned, w.Report.Copied, w.Report.Kept = math.MinInt, math.MaxInt, math.MaxInt },
	}
	for _, f := range improper {
		changes = append(changes, func(w *Work) { f(&w.Heap) })
	}
	for k, f := range changes {
		for j, g := range changes {
			w := begin(t, ordinary(0))
			f(&w)
			if j != k && len(w.Heap.Pages) == 8 && len(w.Heap.Words) == 128 {
				g(&w)
			}
			for _, ref := range append(append([]uint64{0}, all...), noObjects...) {
				forward(t, w, ref)
			}
			for i := -1; i < 9; i++ {
				Promoted(w, i)
			}
		}
	}
}
