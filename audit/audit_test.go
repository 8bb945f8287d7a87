package audit

import (
	"math"
	"slices"
	"testing"

	"semispace/alloc"
	"semispace/api"
	"semispace/object"
	"semispace/page"
	"semispace/walk"
)

// check compares all calls on a heap with what Check has to find.
func check(t *testing.T, h api.Heap, want Finding) {
	t.Helper()
	before := snapshot(h)
	if f := Check(h); f != want {
		t.Errorf("Check: %v, want %v", f, want)
	}
	good := want == Finding{}
	if Good(h) != good {
		t.Errorf("Good of a heap with the finding %v: %t", want, !good)
	}
	for _, refs := range [][]uint64{nil, {}, {0}, {0, 0, 0}} {
		if Refers(h, refs) != good {
			t.Errorf("Refers of a heap with the finding %v, and %v: %t", want, refs, !good)
		}
	}
	if !sameHeap(snapshot(h), before) {
		t.Error("an argument has changed")
	}
}

// change is what makes a heap different.
type change func(h *api.Heap)

// setWord returns the change of the word at an address.
func setWord(addr, w uint64) change { return func(h *api.Heap) { h.Words[addr-4096] = w } }

// setHeader returns the change of the header at an address.
func setHeader(addr uint64, hd api.Header) change { return setWord(addr, wordOf(hd)) }

// setSpaces returns the change of these pages to the other space.
func setSpaces(pages ...int) change {
	return func(h *api.Heap) {
		for _, i := range pages {
			h.Pages[i].Space = 1 - h.Space
		}
	}
}

// setUsed returns the change of the Used of a page.
func setUsed(i, used int) change { return func(h *api.Heap) { h.Pages[i].Used = used } }

// row is a case: changes of an ordinary heap, and what Check finds then.
type row struct {
	want    Finding
	changes []change
}

// checkRows checks cases in heaps of both spaces.
func checkRows(t *testing.T, rows []row) {
	t.Helper()
	for k, x := range rows {
		for space := range 2 {
			h := ordinary(space)
			for _, f := range x.changes {
				f(&h)
			}
			before := t.Failed()
			if check(t, h, x.want); t.Failed() && !before {
				t.Fatalf("case %d in space %d", k, space)
			}
		}
	}
}

func TestFaults(t *testing.T) {
	if l := []int{Shape, Space, Parse, Dirt, Class, Pointer, Crowd}; !slices.Equal(l, []int{1, 2, 3, 4, 5, 6, 7}) {
		t.Errorf("%v", l)
	}
}

func TestExamples(t *testing.T) {
	h, _ := page.New(conf)
	check(t, h, Finding{})
	check(t, api.Heap{}, Finding{Fault: Shape})
}

// 9.1: heaps without a fault, at the limits of what is allowed.
func TestGoodHeaps(t *testing.T) {
	check(t, ordinary(0), Finding{})
	check(t, ordinary(1), Finding{})
	for _, c := range []api.Conf{conf, wide, {PageWords: 16, Pages: 64}, {PageWords: 64, Pages: 8}, {PageWords: 20, Pages: 9}} {
		n := c.PageWords
		one := slices.Repeat([]api.Header{words(0)}, n)
		for space := range 2 {
			check(t, build(c, space), Finding{})
			check(t, build(c, space, slices.Repeat([]sheet{small()}, c.Pages)...), Finding{})
			check(t, build(c, space, slices.Repeat([]sheet{small(one...)}, c.Pages)...), Finding{})
			check(t, build(c, space, small(slices.Repeat([]api.Header{filler(0)}, n)...)), Finding{})
			check(t, build(c, space, small(words(n/4-1), filler(n/4-1), refs(n/4-1), record(n/4-1, 1))), Finding{})
			check(t, build(c, space, large(words(n/4)), large(refs(n-1)), large(words(n)), sheet{}, large(refs(4*n-1))), Finding{})
			check(t, build(c, space, large(record(32, math.MaxUint32)), sheet{}, sheet{}, large(words(2*n-1)), sheet{}), Finding{})
		}
	}
	check(t, build(wide, 0, append(make([]sheet, 60), large(refs(255)))...), Finding{})
}

// improper are changes after which a heap of ordinary is not proper.
var improper = []change{
	func(h *api.Heap) { *h = api.Heap{} },
	func(h *api.Heap) { h.Conf.PageWords = 20 },
	func(h *api.Heap) { h.Conf.Pages = 7 },
	func(h *api.Heap) { h.Words = h.Words[:127] },
	func(h *api.Heap) { h.Words = nil },
	func(h *api.Heap) { h.Pages = h.Pages[:7] },
	func(h *api.Heap) { h.Space = 2 },
	func(h *api.Heap) { h.Bump = 1 },
	func(h *api.Heap) { h.Bump = -2 },
	setUsed(0, 17),
	setUsed(1, 4),
	setUsed(3, 1),
	func(h *api.Heap) { h.Pages[2] = api.Page{} },
	setSpaces(1),
	setSpaces(2),
	func(h *api.Heap) { h.Pages[3].Space = 1 },
	func(h *api.Heap) { h.Pages[2].Pins = 1 },
	func(h *api.Heap) { h.Pages[0].Pins = -1 },
	func(h *api.Heap) { h.Pages[5].Pins = math.MaxInt32 + 1 },
	func(h *api.Heap) { h.Pages[7].Kind = 4 },
}

// 9.1: a heap that is not proper, alone and with other faults.
func TestShape(t *testing.T) {
	var rows []row
	for _, f := range improper {
		for _, other := range []change{
			func(*api.Heap) {}, setSpaces(0), setWord(4096, 0), setHeader(4208, filler(4)), setWord(4111, 1), setWord(4098, 4097), crowd,
		} {
			rows = append(rows, row{Finding{1, 0, 0}, []change{other, f}})
		}
	}
	checkRows(t, rows)
}

// crowd pins objects on three SmallPages.
func crowd(h *api.Heap) { h.Pages[0].Pins = 1 }

// 9.1: pages of the other space. FreePages have none.
func TestSpace(t *testing.T) {
	checkRows(t, []row{
		{Finding{2, 0, 0}, []change{setSpaces(0)}},
		{Finding{2, 1, 0}, []change{setSpaces(1, 2)}},
		{Finding{2, 4, 0}, []change{setSpaces(4)}},
		{Finding{2, 5, 0}, []change{setSpaces(5)}},
		{Finding{2, 6, 0}, []change{setSpaces(6)}},
		{Finding{2, 7, 0}, []change{setSpaces(7)}},
		{Finding{2, 5, 0}, []change{setSpaces(7, 5, 6)}},
		{Finding{2, 1, 0}, []change{setSpaces(7, 5, 2, 6, 1)}},
		{Finding{2, 0, 0}, []change{func(h *api.Heap) { h.Space = 1 - h.Space }}},
	})
}

// 9.1: pages that cannot be read.
func TestParse(t *testing.T) {
	checkRows(t, []row{
		{Finding{3, 0, 0}, []change{setWord(4096, 0)}},
		{Finding{3, 0, 0}, []change{setWord(4102, 0)}},
		{Finding{3, 0, 0}, []change{setWord(4104, 16386)}}, // a forwarding word
		{Finding{3, 0, 0}, []change{setHeader(4104, words(4))}},
		{Finding{3, 0, 0}, []change{setHeader(4104, filler(4))}},
		{Finding{3, 0, 0}, []change{setUsed(0, 11)}},
		{Finding{3, 0, 0}, []change{setUsed(0, 13)}},
		{Finding{3, 0, 0}, []change{setHeader(4099, filler(1))}}, // the next word is 0
		{Finding{3, 1, 0}, []change{setHeader(4112, refs(18))}},
		{Finding{3, 1, 0}, []change{setHeader(4112, refs(20))}},
		{Finding{3, 1, 0}, []change{setUsed(1, 21)}},
		{Finding{3, 1, 0}, []change{setWord(4112, 0)}},
		{Finding{3, 4, 0}, []change{setUsed(4, 1)}},
		{Finding{3, 5, 0}, []change{setWord(4188, math.MaxUint64)}},
		{Finding{3, 5, 0}, []change{setHeader(4188, words(4))}}, // behind the end of the page
		{Finding{3, 6, 0}, []change{setHeader(4192, words(16))}},
		{Finding{3, 7, 0}, []change{setWord(4208, wordOf(words(4))+1<<16)}},
		{Finding{3, 5, 0}, []change{setWord(4208, 0), setWord(4192, 0), setWord(4180, 0)}},
		// Words that no object begins with do not matter.
		{Finding{}, []change{setWord(4105, 0), setWord(4106, 16386)}},
	})
}

// 9.1: objects and fillers on pages of the wrong kind.
func TestClass(t *testing.T) {
	checkRows(t, []row{
		{Finding{5, 0, 4099}, []change{setHeader(4099, filler(4)), setWord(4102, 0), setWord(4103, 0)}},
		{Finding{5, 0, 4104}, []change{setHeader(4104, words(4)), setUsed(0, 13)}},
		{Finding{5, 0, 4104}, []change{setHeader(4104, words(7)), setUsed(0, 16)}},
		{Finding{5, 0, 4104}, []change{setHeader(4104, filler(7)), setUsed(0, 16), setWord(4105, 0), setWord(4106, 0), setWord(4107, 0)}},
		{Finding{5, 4, 4160}, []change{setUsed(4, 16), setHeader(4160, refs(15))}},
		{Finding{5, 5, 4176}, []change{setHeader(4176, words(15))}},
		{Finding{5, 5, 4180}, []change{setHeader(4180, words(11)), setWord(4188, 0)}},
		{Finding{5, 5, 4180}, []change{setHeader(4180, filler(11)), setWord(4182, 0), setWord(4184, 0), setWord(4188, 0)}},
		{Finding{5, 5, 4176}, []change{setHeader(4176, refs(7)), setHeader(4184, words(7))}},
		{Finding{5, 1, 4112}, []change{setHeader(4112, filler(19))}},
		{Finding{5, 6, 4192}, []change{setHeader(4192, filler(15))}},
		{Finding{5, 7, 4208}, []change{setHeader(4208, filler(4))}},
		{Finding{5, 0, 4104}, []change{setHeader(4104, words(5)), setUsed(0, 14), setHeader(4208, filler(4)), setHeader(4112, filler(19))}},
		{Finding{}, []change{setHeader(4099, filler(3)), setWord(4102, 0)}}, // two fillers have become one
	})
	// The greatest small size, and the next one, for each kind and size of pages.
	for n := 16; n <= 64; n += 4 {
		c := api.Conf{PageWords: n, Pages: 11}
		for _, hd := range []api.Header{filler(n / 4), words(n / 4), refs(n / 4), record(n/4, 1)} {
			check(t, build(c, 1, small(), small(words(1), hd)), Finding{5, 1, uint64(4096 + n + 2)})
			hd.Length--
			check(t, build(c, 1, small(), small(words(1), hd)), Finding{})
			check(t, build(c, 1, small(hd, hd, hd, hd)), Finding{})
		}
	}
}

// free are the words of a heap of ordinary that have to be 0.
func free() []uint64 {
	var l []uint64
	for _, x := range [][2]uint64{{4100, 4101}, {4108, 4111}, {4132, 4159}, {4160, 4175}, {4185, 4187}, {4213, 4223}} {
		for addr := x[0]; addr <= x[1]; addr++ {
			l = append(l, addr)
		}
	}
	return l
}

// 9.1: each word of a heap, with a value that is no header and no reference.
func TestDirt(t *testing.T) {
	headers := []uint64{4096, 4099, 4102, 4103, 4104, 4112, 4176, 4180, 4184, 4188, 4192, 4208}
	pointers := []uint64{4098, 4181, 4182, 4183}
	for addr := uint64(4113); addr <= 4131; addr++ {
		pointers = append(pointers, addr)
	}
	for addr := uint64(4096); addr < 4224; addr++ {
		want := Finding{}
		switch i := int(addr-4096) / 16; {
		case slices.Contains(free(), addr):
			want = Finding{4, i, addr}
		case addr == 4112:
			want = Finding{3, 1, 0}
		case slices.Contains(headers, addr):
			want = Finding{3, i, 0}
		case slices.Contains(pointers, addr):
			want = Finding{6, i, addr}
		}
		for _, w := range []uint64{2, 3, 1 << 63, math.MaxUint64} {
			checkRows(t, []row{{want, []change{setWord(addr, w)}}})
		}
		if want.Fault == Dirt { // also for words that are something elsewhere
			for _, w := range []uint64{1, 61, 4096, 16386} {
				checkRows(t, []row{{want, []change{setWord(addr, w)}}})
			}
		}
	}
}

// 9.1: words that have become free.
func TestNewlyFreeWords(t *testing.T) {
	checkRows(t, []row{
		{Finding{4, 0, 4102}, []change{setHeader(4099, filler(3))}}, // the header of another filler
		{Finding{4, 0, 4105}, []change{setHeader(4104, filler(3))}}, // fields
		{Finding{4, 0, 4104}, []change{setUsed(0, 8)}},
		{Finding{4, 2, 4131}, []change{setHeader(4112, refs(16)), setUsed(1, 17)}},
		{Finding{4, 5, 4176}, []change{setUsed(5, 0)}},
		{Finding{4, 5, 4188}, []change{setUsed(5, 12)}},
		{Finding{4, 7, 4208}, []change{func(h *api.Heap) { h.Pages[7] = api.Page{} }}},
	})
}

// 9.1: the first of several words.
func TestFirstDirt(t *testing.T) {
	l := free()
	for k, first := range l {
		for _, second := range l[k+1:] {
			want := Finding{4, int(first-4096) / 16, first}
			checkRows(t, []row{{want, []change{setWord(second, 1), setWord(first, math.MaxUint64)}}})
		}
	}
}

// 9.1: the words behind large objects of each number of pages, up to the end
// of the arena.
func TestDirtBehindLargeObjects(t *testing.T) {
	for k := 1; k <= 4; k++ {
		for n := max(16*k-15, 5); n <= 16*k; n++ {
			from := 8 - k
			h := build(conf, 0, append(make([]sheet, from), large(words(n-1)))...)
			for at := 16*from + 1; at < 128; at++ {
				changed, want := copyOf(h), Finding{}
				changed.Words[at] = 9
				if at >= 16*from+n {
					want = Finding{4, at / 16, uint64(4096 + at)}
				}
				check(t, changed, want)
			}
		}
	}
}

// noObjects are what is no address of an object in a heap of ordinary.
var noObjects = []uint64{
	1, 2, 4095, // in front of the arena
	4097, 4098, 4105, 4107, 4113, 4131, 4177, 4193, 4212, // fields
	4099, 4102, 4184, // fillers
	4100, 4101, 4187, // words of fillers
	4108, 4111, 4213, 4223, // free words behind objects
	4128, 4132, 4144, 4160, // a TailPage, a FreePage and one without objects
	4224, 4225, 1<<32 + 4096, 1<<63 + 4096, 1 << 63, math.MaxUint64, // behind the arena
}

var objects = []uint64{4096, 4103, 4104, 4112, 4176, 4180, 4188, 4192, 4208}

// 9.1: pointer fields with each kind of value.
func TestPointer(t *testing.T) {
	var rows []row
	for _, addr := range []uint64{4098, 4113, 4127, 4128, 4131, 4181, 4183} {
		for _, w := range noObjects {
			rows = append(rows, row{Finding{6, int(addr-4096) / 16, addr}, []change{setWord(addr, w)}})
		}
		for _, w := range append(objects, 0) {
			rows = append(rows, row{Finding{}, []change{setWord(addr, w)}})
		}
	}
	for _, addr := range []uint64{4097, 4105, 4177, 4191, 4193, 4207, 4212} { // data
		for _, w := range noObjects {
			rows = append(rows, row{Finding{}, []change{setWord(addr, w)}})
		}
	}
	rows = append(rows,
		row{Finding{6, 0, 4098}, []change{setWord(4098, 1), setWord(4113, 1), setWord(4183, 1)}},
		row{Finding{6, 2, 4128}, []change{setWord(4183, 1), setWord(4131, 1), setWord(4128, 1)}},
		row{Finding{6, 5, 4182}, []change{setWord(4183, 1), setWord(4182, 1)}},
		// An object has become a filler.
		row{Finding{6, 0, 4098}, []change{setHeader(4104, filler(3)), setWord(4105, 0), setWord(4106, 0), setWord(4107, 0)}},
		// The Record's other field is the pointer now, or none, or both.
		row{Finding{6, 0, 4097}, []change{setHeader(4096, record(2, 1))}},
		row{Finding{}, []change{setHeader(4096, record(2, 0)), setWord(4098, 1)}},
		row{Finding{}, []change{setHeader(4096, words(2)), setWord(4098, 1)}},
		row{Finding{6, 0, 4098}, []change{setHeader(4096, record(2, 3)), setWord(4097, 4103), setWord(4098, 1)}},
	)
	checkRows(t, rows)
}

// 9.1: the pointer fields of the greatest Record, and the last field of the
// largest object, at the end of the arena.
func TestPointersOfGreatObjects(t *testing.T) {
	h := build(wide, 0, append(append([]sheet{large(record(32, 1<<31|1))}, make([]sheet, 59)...), large(refs(255)))...)
	for k := 1; k <= 32; k++ {
		h.Words[k] = 7
	}
	h.Words[1], h.Words[32], h.Words[4095] = 4096, 4096+60*64, 4096
	check(t, h, Finding{})
	for _, at := range []int{1, 32, 60*64 + 1, 4095} {
		changed := copyOf(h)
		changed.Words[at] = 7
		check(t, changed, Finding{6, at / 64, uint64(4096 + at)})
	}
}

// 9.1: as many pinned SmallPages as there may be, and one more.
func TestCrowd(t *testing.T) {
	for n := api.MinPages; n <= api.MaxPages; n++ {
		c := api.Conf{PageWords: 20, Pages: n}
		for _, pins := range []int{1, 1000, math.MaxInt32} {
			h := build(c, 1, slices.Repeat([]sheet{small(words(1))}, n-3)...)
			for i := range n / 4 {
				h.Pages[3*i].Pins = pins
			}
			check(t, h, Finding{})
			i := slices.IndexFunc(h.Pages, func(p api.Page) bool { return p.Pins == 0 })
			h.Pages[i].Pins = pins
			check(t, h, Finding{7, 0, 0})
		}
	}
	// Pins of LargePages do not count.
	h := build(conf, 0, slices.Repeat([]sheet{large(words(5))}, 8)...)
	for i := range h.Pages {
		h.Pages[i].Pins = 1 + i
	}
	check(t, h, Finding{})
	checkRows(t, []row{
		{Finding{7, 0, 0}, []change{crowd}},
		{Finding{}, []change{crowd, func(h *api.Heap) { h.Pages[4].Pins = 0 }}},
	})
}

// 9.1: on one page, Space comes before Parse, Class and Dirt, in this order.
// All of it comes before Pointer, and that before Crowd.
func TestOrderOfFaults(t *testing.T) {
	space, parse, class := setSpaces(5), setWord(4188, 0), setHeader(4176, words(7))
	dirt, pointer := setWord(4186, 3), setWord(4098, 4097)
	checkRows(t, []row{
		{Finding{2, 5, 0}, []change{space, parse, class, dirt, pointer, crowd}},
		{Finding{3, 5, 0}, []change{parse, class, dirt, pointer, crowd}},
		{Finding{5, 5, 4176}, []change{class, dirt, pointer, crowd}},
		{Finding{4, 5, 4186}, []change{dirt, pointer, crowd}},
		{Finding{6, 0, 4098}, []change{pointer, crowd}},
		{Finding{7, 0, 0}, []change{crowd}},
		{Finding{2, 5, 0}, []change{space, dirt}},
		{Finding{2, 5, 0}, []change{space, class}},
		{Finding{3, 5, 0}, []change{parse, dirt}},
		// The word that is not 0 is in front of the object that is too great.
		{Finding{5, 5, 4180}, []change{setHeader(4176, filler(3)), setHeader(4180, words(7))}},
		{Finding{4, 5, 4177}, []change{setHeader(4176, filler(3))}},
	})
}

// 9.1: of several pages, the first one counts, whatever its fault is.
func TestOrderOfPages(t *testing.T) {
	on := map[int][]row{ // the faults of each page, alone
		0: {
			{Finding{2, 0, 0}, []change{setSpaces(0)}}, {Finding{3, 0, 0}, []change{setWord(4103, 0)}},
			{Finding{5, 0, 4104}, []change{setHeader(4104, words(4)), setUsed(0, 13)}}, {Finding{4, 0, 4111}, []change{setWord(4111, 1)}},
		},
		1: {
			{Finding{2, 1, 0}, []change{setSpaces(1, 2)}}, {Finding{3, 1, 0}, []change{setWord(4112, 0)}},
			{Finding{5, 1, 4112}, []change{setHeader(4112, filler(19))}}, {Finding{4, 2, 4143}, []change{setWord(4143, 1)}},
		},
		3: {{Finding{4, 3, 4144}, []change{setWord(4144, 1)}}},
		4: {{Finding{2, 4, 0}, []change{setSpaces(4)}}, {Finding{3, 4, 0}, []change{setUsed(4, 1)}}, {Finding{4, 4, 4175}, []change{setWord(4175, 1)}}},
		7: {
			{Finding{2, 7, 0}, []change{setSpaces(7)}}, {Finding{3, 7, 0}, []change{setUsed(7, 6)}},
			{Finding{5, 7, 4208}, []change{setHeader(4208, filler(4))}}, {Finding{4, 7, 4213}, []change{setWord(4213, 1)}},
		},
	}
	pages := []int{0, 1, 3, 4, 7}
	for k, i := range pages {
		for _, first := range on[i] {
			checkRows(t, []row{first})
			for _, j := range pages[k+1:] {
				for _, second := range on[j] {
					checkRows(t, []row{{first.want, slices.Concat(second.changes, first.changes)}})
				}
			}
		}
	}
}

// 9.1: each word of a heap, with many values, against the model.
func TestAllWords(t *testing.T) {
	values := []uint64{0, 1, 2, 5, 17, 33, 49, 61, 65, 29, 131109, 65541, 1<<48 + 1, 4096, 4104, 4105, 4112, 4224, 16386, math.MaxUint64}
	for at := range 128 {
		for _, w := range values {
			h := ordinary(1)
			h.Words[at] = w
			if f, want := Check(h), model(h); f != want || Good(h) != (want == Finding{}) {
				t.Errorf("word %d is %d: %v, want %v", at, w, f, want)
			}
		}
	}
}

// 9.1: irregular heaps, and what becomes of them, against the model.
func TestIrregularHeaps(t *testing.T) {
	var found [8]int
	for seed := range 400 {
		x := numbers(seed + 1)
		h := x.irregular()
		if f := model(h); f != (Finding{}) {
			t.Fatalf("seed %d: an irregular heap has the finding %v", seed, f)
		}
		check(t, h, Finding{})
		for range 10 {
			spoiled := copyOf(h)
			for range 1 + x.below(4) {
				x.spoil(&spoiled)
			}
			want := model(spoiled)
			found[want.Fault]++
			if f := Check(spoiled); f != want || Good(spoiled) != (want == Finding{}) {
				t.Fatalf("seed %d: %v, want %v", seed, f, want)
			}
			refs := []uint64{x.ref(objectsOf(h)), x.value(h), x.ref(objectsOf(h))}
			if got := Refers(h, refs); got != modelRefers(objectsOf(h), refs[1]) {
				t.Fatalf("seed %d: Refers of %v: %t", seed, refs, got)
			}
		}
	}
	if slices.Min(found[:]) < 20 {
		t.Errorf("hardly any heaps with some of the faults: %v", found)
	}
}

// 9.1: heaps that the lower layers make have no fault.
func TestAllocatedHeaps(t *testing.T) {
	for seed := range 30 {
		x := numbers(seed + 1)
		h, e := page.New(api.Conf{PageWords: 16 + 4*x.below(13), Pages: 8 + x.below(57)})
		var all []uint64
		for e == api.OK {
			var addr uint64
			hd := x.header(1, 40)
			hd.Kind = max(hd.Kind, api.Refs)
			hd.Map = 0
			if h, addr, e = alloc.New(h, hd); e != api.OK {
				break
			}
			all = append(all, addr)
			for i := range hd.Length {
				h, _ = object.SetField(h, addr, i, all[x.below(len(all))])
			}
			check(t, h, Finding{})
		}
		if len(all) == 0 || e != api.ErrMemory {
			t.Errorf("%d objects, error %d", len(all), e)
		}
	}
	// An object to which nothing refers becomes a filler.
	for _, addr := range []uint64{4103, 4180, 4188} {
		hd, _ := object.Get(ordinary(0), addr)
		h, _ := walk.Fill(ordinary(0), addr, hd.Length+1)
		check(t, h, Finding{})
	}
}

// 9.2: lists of references.
func TestRefers(t *testing.T) {
	h := ordinary(0)
	before := snapshot(h)
	for _, ref := range append(noObjects, append(objects, 0)...) {
		want := !slices.Contains(noObjects, ref)
		for _, refs := range [][]uint64{{ref}, {ref, ref}, {0, 4096, ref}, {ref, 4208, 0}, {4112, ref, 4096}, append(slices.Clone(objects), ref)} {
			l := append(slices.Clip(refs), 7)[:len(refs)]
			if Refers(h, l) != want {
				t.Errorf("Refers of %v: %t", refs, !want)
			}
			if !slices.Equal(l, refs) || l[:len(l)+1][len(l)] != 7 {
				t.Error("the references have changed")
			}
		}
	}
	if !sameHeap(snapshot(h), before) {
		t.Error("an argument has changed")
	}
	for ref := uint64(4000); ref < 4300; ref++ {
		if want := slices.Contains(objects, ref); Refers(h, []uint64{ref}) != want || Refers(h, []uint64{0, ref, 4096}) != want {
			t.Errorf("Refers of %d: %t", ref, !want)
		}
	}
	if !Refers(h, slices.Repeat(objects, 10000)) || Refers(h, append(slices.Repeat(objects, 10000), 4095)) {
		t.Error("a long list")
	}
}

// 9.2: of a heap with any fault, no references can be said to be right.
func TestRefersOfBadHeaps(t *testing.T) {
	for k, f := range []change{
		func(h *api.Heap) { h.Bump = 1 }, setSpaces(7), setWord(4208, 0), setHeader(4208, filler(4)), setWord(4223, 1), setWord(4131, 4097), crowd,
	} {
		h := ordinary(0)
		f(&h)
		if Check(h).Fault == 0 || Good(h) {
			t.Errorf("change %d: no finding", k)
		}
		for _, refs := range [][]uint64{nil, {0}, {4096}, {4097}, {0, 4104, 4112}} {
			if Refers(h, refs) {
				t.Errorf("change %d: Refers of %v", k, refs)
			}
		}
	}
	empty, _ := page.New(conf)
	if !Refers(empty, nil) || !Refers(empty, []uint64{0, 0}) || Refers(empty, []uint64{0, 4096}) || Refers(api.Heap{}, nil) {
		t.Error("Refers of a heap without objects")
	}
}

// R1: numbers of any size.
func TestStrangeHeaps(t *testing.T) {
	for _, n := range []int{math.MinInt, -1, math.MaxInt32 + 1, math.MaxInt} {
		for _, f := range []change{
			func(h *api.Heap) { h.Conf.PageWords = n },
			func(h *api.Heap) { h.Conf.Pages = n },
			func(h *api.Heap) { h.Space = n },
			func(h *api.Heap) { h.Pages[0].Kind = n },
			func(h *api.Heap) { h.Pages[0].Space = n },
			func(h *api.Heap) { h.Pages[0].Used = n },
			func(h *api.Heap) { h.Pages[1].Used = n },
			func(h *api.Heap) { h.Pages[1].Pins = n },
			func(h *api.Heap) { h.Pages[2].Used = n },
		} {
			h := ordinary(0)
			f(&h)
			check(t, h, Finding{Fault: Shape})
		}
	}
}
