package scan_test

import (
	"math"
	"slices"
	"testing"

	"semispace/api"
	"semispace/audit"
	"semispace/evacuate"
	"semispace/graph"
	"semispace/header"
	"semispace/heaptest"
	"semispace/object"
	"semispace/scan"
)

// begin returns the Work for the heap of a scene.
func begin(t *testing.T, s scene) evacuate.Work {
	t.Helper()
	if f := audit.Check(s.Heap()); f != (audit.Finding{}) {
		t.Fatalf("a heap of the tests has the finding %v", f)
	}
	w, e := evacuate.Begin(s.Heap())
	if e != api.OK {
		t.Fatalf("Begin: error %d", e)
	}
	return w
}

// safely makes a call on a copy of a Work. It checks that the call leaves its
// argument as it is, and that the Work is zero together with an error.
func safely(t *testing.T, w evacuate.Work, call func(evacuate.Work) (evacuate.Work, api.Errno)) (evacuate.Work, api.Errno) {
	t.Helper()
	arg := roomyWork(w)
	before := wholeWork(arg)
	got, e := call(arg)
	if !sameWork(wholeWork(arg), before) {
		t.Fatal("the argument has changed")
	}
	if e != api.OK && !sameWork(got, evacuate.Work{}) {
		t.Fatalf("error %d with the Work %v", e, got)
	}
	return got, e
}

// roots is scan.Roots with the checks of safely.
func roots(t *testing.T, w evacuate.Work, l []uint64) (evacuate.Work, []uint64, api.Errno) {
	t.Helper()
	arg := heaptest.Roomy(l, 77)
	before := heaptest.Whole(arg)
	var news []uint64
	got, e := safely(t, w, func(w evacuate.Work) (next evacuate.Work, e api.Errno) {
		next, news, e = scan.Roots(w, arg)
		return next, e
	})
	if !slices.Equal(heaptest.Whole(arg), before) {
		t.Fatal("Roots: the roots have changed")
	}
	if e != api.OK && len(news) != 0 {
		t.Fatalf("Roots: error %d with the roots %v", e, news)
	}
	return got, news, e
}

// step is scan.Step with the checks of safely.
func step(t *testing.T, w evacuate.Work) (evacuate.Work, bool, api.Errno) {
	t.Helper()
	more := false
	got, e := safely(t, w, func(w evacuate.Work) (next evacuate.Work, e api.Errno) {
		next, more, e = scan.Step(w)
		return next, e
	})
	if e != api.OK && more {
		t.Fatalf("Step: error %d and true", e)
	}
	return got, more, e
}

// equal checks a Work.
func equal(t *testing.T, got, want evacuate.Work) {
	t.Helper()
	if !sameWork(got, want) {
		t.Fatalf("the Work is\n%v, want\n%v", got, want)
	}
}

// rooted is Roots without an error, where the new roots are known.
func rooted(t *testing.T, w evacuate.Work, l, want []uint64) evacuate.Work {
	t.Helper()
	w, news, e := roots(t, w, l)
	if !slices.Equal(news, want) || e != api.OK {
		t.Fatalf("Roots of %v: %v, error %d, want %v", l, news, e, want)
	}
	return w
}

// stepped is Step for an object, without an error.
func stepped(t *testing.T, w evacuate.Work) evacuate.Work {
	t.Helper()
	w, more, e := step(t, w)
	if !more || e != api.OK {
		t.Fatalf("Step: %t, error %d", more, e)
	}
	return w
}

// finished checks that nothing is left to do: Step and All change nothing.
func finished(t *testing.T, w evacuate.Work) {
	t.Helper()
	next, more, e := step(t, w)
	if more || e != api.OK {
		t.Fatalf("Step at the end: %t, error %d", more, e)
	}
	equal(t, next, w)
	endsAs(t, w, w)
}

// endsAs checks what All makes of a Work.
func endsAs(t *testing.T, w, want evacuate.Work) {
	t.Helper()
	got, e := safely(t, w, scan.All)
	if e != api.OK {
		t.Fatalf("All: error %d", e)
	}
	equal(t, got, want)
}

// failsAt checks the error of Roots.
func failsAt(t *testing.T, w evacuate.Work, l []uint64, want api.Errno) {
	t.Helper()
	if _, _, e := roots(t, w, l); e != want {
		t.Fatalf("Roots of %v: error %d, want %d", l, e, want)
	}
}

// stuck checks the error of Step and All.
func stuck(t *testing.T, w evacuate.Work, want api.Errno) {
	t.Helper()
	if _, _, e := step(t, w); e != want {
		t.Fatalf("Step: error %d, want %d", e, want)
	}
	if _, e := safely(t, w, scan.All); e != want {
		t.Fatalf("All: error %d, want %d", e, want)
	}
}

// settled checks that each pointer field of an object in the queue is 0 or
// refers to an object in the queue, which is where it will stay.
func settled(t *testing.T, w evacuate.Work) {
	t.Helper()
	for _, addr := range w.Queue {
		hd, e := object.Get(w.Heap, addr)
		fields, _ := object.Fields(w.Heap, addr)
		if e != api.OK {
			t.Fatalf("there is no object at %d: error %d", addr, e)
		}
		for _, i := range header.Pointers(hd) {
			if fields[i] != 0 && !slices.Contains(w.Queue, fields[i]) {
				t.Fatalf("field %d of the object at %d refers to %d", i, addr, fields[i])
			}
		}
	}
}

// run forwards roots and scans all things, and compares each Work on the way
// with the model. It returns the error that ends this.
func run(t *testing.T, s scene, refs []uint64) api.Errno {
	t.Helper()
	at := s.Addresses()
	want, to, ok := model(s, refs, 0)
	if !ok {
		failsAt(t, begin(t, s), heaptest.ValuesOf(at, refs), api.ErrMemory)
		return api.ErrMemory
	}
	works := []evacuate.Work{rooted(t, begin(t, s), heaptest.ValuesOf(at, refs), heaptest.ValuesOf(to, refs))}
	equal(t, works[0], want)
	for k := 0; k < len(s.Queue(refs, k)); k++ {
		want, _, ok := model(s, refs, k+1)
		if !ok {
			stuck(t, works[k], api.ErrMemory)
			if _, e := safely(t, works[0], scan.All); e != api.ErrMemory {
				t.Fatalf("All: error %d", e)
			}
			return api.ErrMemory
		}
		works = append(works, stepped(t, works[k]))
		equal(t, works[k+1], want)
	}
	end := works[len(works)-1]
	finished(t, end)
	settled(t, end)
	for _, w := range works {
		endsAs(t, w, end)
	}
	reachable, _ := graph.Order(s.Heap(), heaptest.ValuesOf(at, refs))
	if n := len(reachable); len(works)-1 != n || end.Scanned != n || len(end.Queue) != n {
		t.Fatalf("%d objects are reachable, %d steps, %d scanned, %d in the queue", n, len(works)-1, end.Scanned, len(end.Queue))
	}
	return api.OK
}

func TestExamples(t *testing.T) {
	w := begin(t, heaptest.Ordinary(0))
	if next, more, e := scan.Step(w); more || e != api.OK || !sameWork(next, w) {
		t.Errorf("Step with an empty Queue: %t, error %d, %v", more, e, next)
	}
	list := scene{Conf: heaptest.Conf, Things: []heaptest.Thing{heaptest.Refs(0, 2), heaptest.Refs(0, 3), heaptest.Refs(0, 0), heaptest.Refs(0, 1)}}
	w = rooted(t, begin(t, list), []uint64{4096}, []uint64{4112})
	if w, e := scan.All(w); w.Scanned != 3 || e != api.OK {
		t.Errorf("All with a list of three objects: Scanned %d, error %d", w.Scanned, e)
	}
}

// 11.1: roots on each kind of page, null ones, and ones that come twice.
func TestRoots(t *testing.T) {
	for space := range 2 {
		s := heaptest.Ordinary(space)
		w := begin(t, s)
		got := rooted(t, w, []uint64{4112, 0, 4144, 4112, 4106, 0}, []uint64{4112, 0, 4144, 4112, 4160, 0})
		if !slices.Equal(got.Queue, []uint64{4112, 4144, 4160}) || got.Scanned != 0 || got.Report != (api.Report{Copied: 1, Kept: 2}) {
			t.Errorf("%v, %d, %v", got.Queue, got.Scanned, got.Report)
		}
		// What the roots refer to is not scanned.
		want, _, _ := model(s, []uint64{7, 8, 6}, 0)
		equal(t, got, want)
		if !slices.Equal(got.Heap.Words[64:68], []uint64{57, 0, 4144, 0}) || got.Heap.Words[17] != 4096 || got.Heap.Words[50] != 4106 {
			t.Errorf("%v", got.Heap.Words)
		}
	}
}

// 11.1: the order of the roots is the order of the copies and of the queue.
func TestOrderOfRoots(t *testing.T) {
	w := begin(t, heaptest.Ordinary(0))
	for _, x := range []struct{ roots, news, queue []uint64 }{
		{[]uint64{4096, 4102, 4104}, []uint64{4160, 4164, 4166}, []uint64{4160, 4164, 4166}},
		{[]uint64{4104, 4102, 4096}, []uint64{4160, 4161, 4163}, []uint64{4160, 4161, 4163}},
		{[]uint64{4102, 4104, 4096, 4102}, []uint64{4160, 4162, 4163, 4160}, []uint64{4160, 4162, 4163}},
		{[]uint64{4150, 4096, 4147}, []uint64{4150, 4160, 4147}, []uint64{4150, 4160, 4147}},
		{[]uint64{4192, 0, 4112, 4105}, []uint64{4192, 0, 4112, 4160}, []uint64{4192, 4112, 4160}},
	} {
		if got := rooted(t, w, x.roots, x.news); !slices.Equal(got.Queue, x.queue) {
			t.Errorf("roots %v: Queue %v, want %v", x.roots, got.Queue, x.queue)
		}
	}
}

// 11.1: no roots, only null ones, and very many.
func TestNumbersOfRoots(t *testing.T) {
	for _, s := range []scene{heaptest.Ordinary(0), heaptest.Ordinary(1), {Conf: heaptest.Conf}, {Conf: heaptest.Wide, Space: 1}} {
		w := begin(t, s)
		equal(t, rooted(t, w, nil, nil), w)
		equal(t, rooted(t, w, []uint64{}, nil), w)
		equal(t, rooted(t, w, []uint64{0}, []uint64{0}), w)
		equal(t, rooted(t, w, make([]uint64, 1000), make([]uint64, 1000)), w)
	}
	w := begin(t, heaptest.Ordinary(0))
	one := rooted(t, w, []uint64{4106}, []uint64{4160})
	equal(t, rooted(t, w, slices.Repeat([]uint64{4106}, 1000), slices.Repeat([]uint64{4160}, 1000)), one)
}

// 11.1: roots after other roots and between steps, by old and by new addresses.
func TestRootsAgain(t *testing.T) {
	s := heaptest.Ordinary(1)
	w := rooted(t, begin(t, s), []uint64{4106, 4144}, []uint64{4160, 4144})
	equal(t, rooted(t, w, []uint64{4144, 4160, 4106}, []uint64{4144, 4160, 4160}), w)
	want, _, _ := model(s, []uint64{6, 8, 3, 9}, 0)
	equal(t, rooted(t, w, []uint64{4102, 4147}, []uint64{4164, 4147}), want)
	w = stepped(t, w)
	want, _, _ = model(s, []uint64{6, 8, 4}, 1)
	w = rooted(t, w, []uint64{4160, 4104}, []uint64{4160, 4164})
	equal(t, w, want)
	want, _, _ = model(s, []uint64{6, 8, 4, 1}, 3)
	w = rooted(t, stepped(t, stepped(t, w)), []uint64{4096, 0, 4104}, []uint64{4165, 0, 4164})
	equal(t, w, want)
	want, _, _ = model(s, []uint64{6, 8, 4, 1}, 5)
	endsAs(t, w, want)
	finished(t, want)
}

// 11.1: roots that are no references.
func TestRootsThatAreNoObjects(t *testing.T) {
	w := begin(t, heaptest.Ordinary(0))
	good := []uint64{4096, 0, 4112, 4144, 4192, 4102}
	for _, bad := range heaptest.NoObjects() {
		failsAt(t, w, []uint64{bad}, api.ErrCorrupt)
		for k := range len(good) + 1 {
			failsAt(t, w, slices.Insert(slices.Clone(good), k, bad), api.ErrCorrupt)
		}
	}
	rooted(t, w, good, []uint64{4160, 0, 4112, 4144, 4192, 4164})
	// The address of a copy is a root only when the copy is there.
	failsAt(t, w, []uint64{4160, 4096}, api.ErrCorrupt)
	rooted(t, w, []uint64{4096, 4160}, []uint64{4160, 4160})
	failsAt(t, begin(t, scene{Conf: heaptest.Conf}), []uint64{4096}, api.ErrCorrupt)
}

// 11.1: roots for which there is no room, alone and with roots that are no
// references: the first one that has an error determines it.
func TestRootsWithoutRoom(t *testing.T) {
	w := begin(t, heaptest.Full(0))
	for _, l := range [][]uint64{{4096}, {0, 4096}, {4128, 4144, 4131, 4096}, {4128, 4096, 1}, {4096, 4129}, {4096, 1, 4100, 1}} {
		failsAt(t, w, l, api.ErrMemory)
	}
	for _, l := range [][]uint64{{1, 4096}, {0, 4097, 4096}, {4128, 4144, 4129, 4096}, {4128, 1, 4100, 1}} {
		failsAt(t, w, l, api.ErrCorrupt)
	}
	rooted(t, w, []uint64{0, 4128, 4144, 4131}, []uint64{0, 4128, 4144, 4131})
	// Four objects fill the only page exactly, and after them one has no room.
	w = begin(t, heaptest.Full(1))
	four := []uint64{4124, 4096, 4100, 4112}
	filled := rooted(t, w, four, []uint64{4208, 4212, 4216, 4220})
	failsAt(t, w, append(four, 4104), api.ErrMemory)
	failsAt(t, w, append(four, 4104, 4105), api.ErrMemory)
	failsAt(t, w, append(four, 4105, 4104), api.ErrCorrupt)
	failsAt(t, filled, []uint64{4104}, api.ErrMemory)
	equal(t, rooted(t, filled, four, []uint64{4208, 4212, 4216, 4220}), filled)
	rooted(t, filled, []uint64{4220, 4128}, []uint64{4220, 4128})
	rooted(t, begin(t, heaptest.Full(2)), append(four, 4104), []uint64{4192, 4196, 4200, 4204, 4208})
}

// 11.2: step by step, written out.
func TestStep(t *testing.T) {
	for space := range 2 {
		w := rooted(t, begin(t, heaptest.Ordinary(space)), []uint64{4112, 4144, 4106}, []uint64{4112, 4144, 4160})
		words, pages := slices.Clone(w.Heap.Words), slices.Clone(w.Heap.Pages)
		for k, x := range []struct {
			changes map[int]uint64 // of words
			used    int            // of page 4
			queue   []uint64
			report  api.Report
		}{
			{map[int]uint64{0: 16658, 17: 4164, 18: 4112, 35: 4147, 68: 327733, 69: 4102, 70: 4102, 71: 4096}, 8, []uint64{4164, 4147}, api.Report{Copied: 2, Kept: 3, Steps: 20}},
			{map[int]uint64{50: 4160}, 8, nil, api.Report{Copied: 2, Kept: 3, Steps: 22}},
			{nil, 8, nil, api.Report{Copied: 2, Kept: 3, Steps: 26}}, // field 1 refers to 4144 as before
			{map[int]uint64{6: 16674, 69: 4168, 71: 4164, 72: 29, 73: 4096}, 10, []uint64{4168}, api.Report{Copied: 3, Kept: 3, Steps: 29}},
			{nil, 10, nil, api.Report{Copied: 3, Kept: 3, Steps: 30}},
			{nil, 10, nil, api.Report{Copied: 3, Kept: 3, Steps: 31}},
		} {
			want := w
			for i, v := range x.changes {
				words[i] = v
			}
			pages[4].Used = x.used
			want.Heap.Words, want.Heap.Pages = words, pages
			want.Queue, want.Report = append(slices.Clone(w.Queue), x.queue...), x.report
			want.Scanned = k + 1
			w = stepped(t, w)
			equal(t, w, want)
		}
		finished(t, w)
		settled(t, w)
	}
}

// 11.2: a Step at the end of the queue, before and after roots.
func TestStepAtTheEnd(t *testing.T) {
	for _, s := range []scene{heaptest.Ordinary(0), {Conf: heaptest.Conf, Space: 1}, heaptest.Full(0)} {
		w := begin(t, s)
		finished(t, w)
		finished(t, rooted(t, w, []uint64{0, 0}, []uint64{0, 0}))
	}
	w := rooted(t, begin(t, heaptest.Ordinary(0)), []uint64{4104}, []uint64{4160})
	w = stepped(t, w)
	finished(t, w)
	w = rooted(t, w, []uint64{4104}, []uint64{4160})
	finished(t, w)
	w = stepped(t, rooted(t, w, []uint64{4105}, []uint64{4161}))
	finished(t, w)
	if w.Scanned != 2 || w.Report != (api.Report{Copied: 2, Steps: 2}) {
		t.Errorf("%d, %v", w.Scanned, w.Report)
	}
}

// around is a scene with an object of this header at 4096, whose pointer fields
// refer to each kind of object and to null, and whose data fields look like
// references.
func around(hd api.Header) scene {
	x := heaptest.Thing{Node: graph.Node{Header: hd, Fields: make([]uint64, hd.Length)}}
	for i := range x.Fields {
		x.Fields[i] = []uint64{4096, 4352, 16386, 1<<64 - 1}[i%4]
	}
	for k, i := range x.Pointers() {
		x.Fields[i] = []uint64{2, 1, 3, 0, 4, 5, 2}[k%7]
	}
	return scene{Conf: api.Conf{PageWords: 64, Pages: 16}, Pinned: []int{5}, Things: []heaptest.Thing{
		x, heaptest.Words(4, 4352, 7), heaptest.Words(5, 4096), heaptest.Refs(6, make([]uint64, 70)...), heaptest.Record(4, 1, 1),
	}}
}

// 11.2: objects of each kind, from no fields to as many as there may be, on
// pages from which they are copied and on pages of their own.
func TestStepOfEachHeader(t *testing.T) {
	check := func(hd api.Header, pointers int) {
		t.Helper()
		s := around(hd)
		if e := run(t, s, []uint64{1}); e != api.OK {
			t.Errorf("%v: error %d", hd, e)
		}
		_, to, _ := model(s, []uint64{1}, 0)
		w := stepped(t, rooted(t, begin(t, s), []uint64{4096}, to[:1]))
		if w.Scanned != 1 || w.Report.Steps != 1+pointers {
			t.Errorf("%v: Scanned %d, Steps %d", hd, w.Scanned, w.Report.Steps)
		}
	}
	for _, n := range []int{0, 1, 2, 15, 16, 63, 64, 254, 255} { // up to 15 fields are small
		check(api.Header{Kind: api.Refs, Length: n}, n)
		check(api.Header{Kind: api.Words, Length: n}, 0)
	}
	for n := range 5 {
		for m := range 1 << n {
			check(api.Header{Kind: api.Record, Length: n, Map: uint32(m)}, []int{0, 1, 1, 2, 1, 2, 2, 3, 1, 2, 2, 3, 2, 3, 3, 4}[m])
		}
	}
	for _, x := range []struct {
		n        int
		m        uint32
		pointers int
	}{
		{15, 1<<15 - 1, 15}, {15, 1 << 14, 1}, {16, 1<<16 - 1, 16}, {16, 1 << 15, 1}, {31, 1<<31 - 1, 31},
		{32, 0, 0}, {32, 1, 1}, {32, 1 << 31, 1}, {32, 1<<31 + 1, 2}, {32, 0x55555555, 16}, {32, 1<<32 - 1, 32},
	} {
		check(api.Header{Kind: api.Record, Length: x.n, Map: x.m}, x.pointers)
	}
}

// 11.2 and 11.3: pointer fields for whose objects there is no room. The object
// is at 4144 and has the number 0 in the queue.
func TestStepWithoutRoom(t *testing.T) {
	for i := range 19 {
		fields := slices.Repeat([]uint64{9, 0, 11}, 7)[:19]
		fields[i] = 6
		stuck(t, rooted(t, begin(t, heaptest.Full(0, fields...)), []uint64{4144}, []uint64{4144}), api.ErrMemory)
		if run(t, heaptest.Full(0, fields...), []uint64{11}) != api.ErrMemory || run(t, heaptest.Full(1, fields...), []uint64{11}) != api.OK {
			t.Errorf("field %d", i)
		}
	}
	// Four objects have room on one page, and one more on the next.
	for _, x := range []struct {
		free int
		want api.Errno
		l    []uint64
	}{
		{1, api.OK, []uint64{1, 9, 5, 0, 8, 1, 2, 5, 2}},
		{1, api.ErrMemory, []uint64{1, 9, 5, 0, 8, 1, 2, 5, 3}},
		{2, api.OK, []uint64{1, 9, 5, 0, 8, 1, 2, 5, 3, 4, 6, 7}},
	} {
		if e := run(t, heaptest.Full(x.free, x.l...), []uint64{11}); e != x.want {
			t.Errorf("fields %v: error %d, want %d", x.l, e, x.want)
		}
	}
	// The error comes with the second object of the queue, also for All.
	w := rooted(t, begin(t, heaptest.Full(0, 9, 10, 4)), []uint64{4131, 4144}, []uint64{4131, 4144})
	stuck(t, stepped(t, w), api.ErrMemory)
	if _, e := safely(t, w, scan.All); e != api.ErrMemory {
		t.Errorf("All: error %d", e)
	}
}

// 11.2: the first pointer field that has an error determines it. No call leads
// to a field that is no reference, so this one is set between two calls.
func TestStepWithSeveralErrors(t *testing.T) {
	for none := range 19 {
		for bad := range 19 {
			fields := slices.Repeat([]uint64{9, 0, 11}, 7)[:19]
			want := api.ErrCorrupt
			if none != bad {
				fields[none] = 3
			}
			if none < bad {
				want = api.ErrMemory
			}
			w := rooted(t, begin(t, heaptest.Full(0, fields...)), []uint64{4144}, []uint64{4144})
			w.Heap, _ = object.SetField(w.Heap, 4144, bad, 4129)
			stuck(t, w, want)
		}
	}
}

// 11.3: an error of a later Step, and none of a Step before it.
func TestAllWithoutRoom(t *testing.T) {
	for n := range 8 { // pages with a list of four objects on each
		s := scene{Conf: heaptest.Conf}
		for k := range 4 * n {
			s.Things = append(s.Things, heaptest.Refs(k/4, uint64(k), 0, 0))
		}
		want := api.OK
		if n > 4 { // fewer than n FreePages
			want = api.ErrMemory
		}
		if e := run(t, s, []uint64{uint64(4 * n)}); e != want {
			t.Errorf("%d pages: error %d, want %d", n, e, want)
		}
	}
}

// 11.1 to 11.4: each list of two roots in a heap, against the model.
func TestAllPairsOfRoots(t *testing.T) {
	s := heaptest.Ordinary(1)
	for a := range uint64(14) {
		for b := range uint64(14) {
			if a == 2 || b == 2 { // the Filler
				continue
			}
			if e := run(t, s, []uint64{a, b}); e != api.OK {
				t.Errorf("%d and %d: error %d", a, b, e)
			}
		}
	}
}

// 11.1 to 11.4: irregular roots in irregular heaps, against the model.
func TestIrregularHeaps(t *testing.T) {
	results := map[api.Errno]int{}
	for seed := range 250 {
		x := heaptest.Numbers(seed + 1)
		s := x.Scene()
		results[run(t, s, x.Refs(s, x.Below(12)))]++
	}
	if results[api.OK] < 50 || results[api.ErrMemory] < 50 {
		t.Errorf("hardly any of one kind: %v", results)
	}
}

// 11.4: a list of as many objects as have room for their copies, in both
// directions, and one object more.
func TestLongList(t *testing.T) {
	for _, n := range []int{1024, 1025} {
		for _, x := range []struct {
			s    scene
			root int
		}{{heaptest.List(n, false), 0}, {heaptest.List(n, true), n - 1}} {
			w, _, e := scan.Roots(begin(t, x.s), []uint64{x.s.Addresses()[x.root]})
			if e != api.OK {
				t.Fatalf("Roots: error %d", e)
			}
			w, e = scan.All(w)
			if n > 1024 {
				if e != api.ErrMemory || !sameWork(w, evacuate.Work{}) {
					t.Errorf("%d objects: error %d", n, e)
				}
				continue
			}
			if e != api.OK || w.Scanned != n || len(w.Queue) != n || w.Report != (api.Report{Copied: n, Steps: 2 * n}) {
				t.Errorf("%d objects: error %d, Scanned %d, %v", n, e, w.Scanned, w.Report)
			}
			settled(t, w)
		}
	}
}

// 11.4: all words of the arena are objects with pointers to each other. There
// are as many steps as words.
func TestFullHeap(t *testing.T) {
	s := heaptest.AllUsed()
	w, _, _ := scan.Roots(begin(t, s), []uint64{4096 + 64*7})
	w, e := scan.All(w)
	if e != api.OK || w.Scanned != 64 || w.Report != (api.Report{Kept: 64, Steps: 4096}) {
		t.Errorf("error %d, Scanned %d, %v", e, w.Scanned, w.Report)
	}
	want, _, _ := model(s, []uint64{8}, 64)
	equal(t, w, want)
	settled(t, w)
}

// R5: calls on one Work do not disturb each other.
func TestForks(t *testing.T) {
	s := heaptest.Ordinary(0)
	w := roomyWork(rooted(t, begin(t, s), []uint64{4106, 4144}, []uint64{4160, 4144}))
	a, more, _ := scan.Step(w)
	b, news, _ := scan.Roots(w, []uint64{4096})
	c, again, _ := scan.Step(w)
	d, _ := scan.All(w)
	f, _, _ := scan.Roots(w, []uint64{4176})
	if !more || !again || !slices.Equal(news, []uint64{4164}) {
		t.Errorf("%t, %t, %v", more, again, news)
	}
	for _, x := range []struct {
		got   evacuate.Work
		roots []uint64
		steps int
	}{{a, []uint64{6, 8}, 1}, {b, []uint64{6, 8, 1}, 0}, {c, []uint64{6, 8}, 1}, {d, []uint64{6, 8}, 2}, {f, []uint64{6, 8, 11}, 0}} {
		want, _, _ := model(s, x.roots, x.steps)
		equal(t, x.got, want)
	}
}

// fresh checks that a result shares no memory with a Work and that its slices
// share none with each other. It overwrites the result.
func fresh(t *testing.T, arg, got evacuate.Work, e api.Errno) {
	t.Helper()
	before := wholeWork(arg)
	marks := map[uint64][]uint64{1: got.Heap.Words, 2: got.Old, 3: got.Queue}
	for v, l := range marks {
		for i := range l[:cap(l)] {
			l[:cap(l)][i] = v
		}
	}
	for i := range got.Heap.Pages {
		got.Heap.Pages[i] = api.Page{Kind: 88}
	}
	for i := range got.Taken[:cap(got.Taken)] {
		got.Taken[:cap(got.Taken)][i] = 88
	}
	if !sameWork(wholeWork(arg), before) || e != api.OK {
		t.Errorf("the result shares memory with the argument, or error %d", e)
	}
	for v, l := range marks {
		if slices.ContainsFunc(l, func(w uint64) bool { return w != v }) {
			t.Error("two slices of the result share memory")
		}
	}
}

// Rule 7 of the language: results are new memory, also where nothing changes.
func TestNewMemory(t *testing.T) {
	w := rooted(t, begin(t, heaptest.Ordinary(0)), []uint64{4096, 4104}, []uint64{4160, 4164})
	for range 4 { // the last time, nothing is left to do
		for _, l := range [][]uint64{nil, {0, 0}, {4096}, {4176, 4112}} {
			arg, list := roomyWork(w), slices.Clone(l)
			got, news, e := scan.Roots(arg, list)
			for k := range news {
				news[k] = 99
			}
			if !slices.Equal(list, l) {
				t.Error("the new roots share memory with the old ones")
			}
			fresh(t, arg, got, e)
		}
		arg := roomyWork(w)
		got, _, e := scan.Step(arg)
		fresh(t, arg, got, e)
		got, e = scan.All(arg)
		fresh(t, arg, got, e)
		w, _, _ = scan.Step(w)
	}
}

// strange are changes after which a Work is none that a call returns.
var strange = []func(w *evacuate.Work){
	func(w *evacuate.Work) { *w = evacuate.Work{} },
	func(w *evacuate.Work) { w.Scanned = -1 },
	func(w *evacuate.Work) { w.Scanned = len(w.Queue) + 1 },
	func(w *evacuate.Work) { w.Scanned = math.MinInt },
	func(w *evacuate.Work) { w.Scanned = math.MaxInt },
	func(w *evacuate.Work) {
		w.Report.Steps, w.Report.Kept, w.Report.Copied = math.MaxInt, math.MaxInt, math.MaxInt
	},
	func(w *evacuate.Work) { w.Queue = append([]uint64{0}, w.Queue...) },
	func(w *evacuate.Work) { w.Queue = append(w.Queue, heaptest.NoObjects()...) },
	func(w *evacuate.Work) { w.Queue = append(w.Queue, w.Old...) },
	func(w *evacuate.Work) { w.Queue = append(w.Queue, w.Queue...) },
	func(w *evacuate.Work) { w.Queue = w.Queue[:len(w.Queue)/2] },
	func(w *evacuate.Work) { w.Old = append(w.Old, heaptest.NoObjects()...) },
	func(w *evacuate.Work) { w.Old = nil },
	func(w *evacuate.Work) { w.Taken = []int{-1} },
	func(w *evacuate.Work) { w.Taken = []int{math.MaxInt, 8} },
	func(w *evacuate.Work) { w.Taken = []int{0} },
	func(w *evacuate.Work) { w.Taken = nil },
	func(w *evacuate.Work) { w.Heap.Words = nil },
	func(w *evacuate.Work) { w.Heap.Pages = nil },
	func(w *evacuate.Work) { w.Heap.Conf = heaptest.Wide },
	func(w *evacuate.Work) { w.Heap.Space = 2 },
	func(w *evacuate.Work) { w.Heap.Space = 1 - w.Heap.Space },
	func(w *evacuate.Work) { w.Heap.Pages = slices.Repeat([]api.Page{{Kind: 1, Used: 16}}, 8) },
	func(w *evacuate.Work) { w.Heap.Pages = make([]api.Page, 8) },
	func(w *evacuate.Work) { // each word a header of Refs whose fields are words
		for i := range w.Heap.Words {
			w.Heap.Words[i] = 9 + 16*3
		}
	},
	func(w *evacuate.Work) { // each word an address
		for i := range w.Heap.Words {
			w.Heap.Words[i] = uint64(4096 + 5*i%128)
		}
	},
	func(w *evacuate.Work) { // each word a forwarding word
		for i := range w.Heap.Words {
			w.Heap.Words[i] = uint64(2 + 4*(4096+i))
		}
	},
	func(w *evacuate.Work) { // headers of Refs and the addresses of the next ones in turn
		for i := 0; i+1 < len(w.Heap.Words); i += 2 {
			w.Heap.Words[i], w.Heap.Words[i+1] = 9+16, uint64(4097+i)
			w.Old = append(w.Old, uint64(4096+i), uint64(4097+i))
		}
	},
}

// R1: no call panics, and all end, on Works that no call returns.
func TestStrangeWorks(t *testing.T) {
	for _, f := range strange {
		for _, g := range strange {
			for steps := range 3 {
				w := rooted(t, begin(t, heaptest.Ordinary(0)), []uint64{4112, 4106}, []uint64{4112, 4160})
				for range steps {
					w = stepped(t, w)
				}
				f(&w)
				g(&w)
				roots(t, w, nil)
				for _, ref := range append(append([]uint64{0}, heaptest.NoObjects()...), heaptest.Ordinary(0).Addresses()...) {
					roots(t, w, []uint64{ref, 4096})
				}
				step(t, w)
				safely(t, w, scan.All)
			}
		}
	}
}
