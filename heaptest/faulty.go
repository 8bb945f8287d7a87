package heaptest

import (
	"math"

	"semispace/api"
)

// spoiled returns a heap for each of these functions, which changes it.
func spoiled(h func() api.Heap, spoil []func(h *api.Heap)) []api.Heap {
	l := make([]api.Heap, len(spoil))
	for k, change := range spoil {
		l[k] = h()
		change(&l[k])
	}
	return l
}

// NotProper are heaps that are not proper, most of them in one thing only.
func NotProper() []api.Heap {
	return spoiled(func() api.Heap { return Ordinary(0).Heap() }, []func(h *api.Heap){
		func(h *api.Heap) { *h = api.Heap{} },
		func(h *api.Heap) { h.Conf.PageWords = 12 },
		func(h *api.Heap) { h.Conf.PageWords = 68 },
		func(h *api.Heap) { h.Conf.PageWords = 18 },
		func(h *api.Heap) { h.Conf.Pages = 7 },
		func(h *api.Heap) { h.Conf.Pages = 65 },
		func(h *api.Heap) { h.Conf.Pages = 9 },
		func(h *api.Heap) { h.Words = h.Words[:127] },
		func(h *api.Heap) { h.Words = append(h.Words, 0) },
		func(h *api.Heap) { h.Pages = h.Pages[:7] },
		func(h *api.Heap) { h.Pages = append(h.Pages, api.Page{}) },
		func(h *api.Heap) { h.Space = 2 },
		func(h *api.Heap) { h.Space = -1 },
		func(h *api.Heap) { h.Bump = -2 },
		func(h *api.Heap) { h.Bump = 8 },
		func(h *api.Heap) { h.Bump = 1 }, // a LargePage
		func(h *api.Heap) { h.Bump = 2 }, // a TailPage
		func(h *api.Heap) { h.Bump = 4 }, // a FreePage
		func(h *api.Heap) { h.Pages[4].Used = 1 },
		func(h *api.Heap) { h.Pages[4].Kind = 4 },
		func(h *api.Heap) { h.Pages[4].Kind = -1 },
		func(h *api.Heap) { h.Pages[4].Kind = api.TailPage },
		func(h *api.Heap) { h.Pages[0].Space = 2 },
		func(h *api.Heap) { h.Pages[0].Used = 17 },
		func(h *api.Heap) { h.Pages[0].Used = -1 },
		func(h *api.Heap) { h.Pages[3].Pins = -1 },
		func(h *api.Heap) { h.Pages[3].Pins = math.MaxInt32 + 1 },
		func(h *api.Heap) { h.Pages[1].Used = 4 },
		func(h *api.Heap) { h.Pages[1].Used = 16 },
		func(h *api.Heap) { h.Pages[2] = api.Page{} },
		func(h *api.Heap) { h.Pages[2].Space = 1 },
	})
}

// Crowded is the heap of Ordinary with a second SmallPage with pins, page 7, on
// which nothing is. It is good, and no other page may have pins.
func Crowded() api.Heap {
	h := Ordinary(0).Heap()
	h.Pages[7], h.Bump = api.Page{Kind: api.SmallPage, Pins: 1}, 7
	return h
}

// NotGood are heaps that are proper, but not good in one thing.
func NotGood() []api.Heap {
	return spoiled(Crowded, []func(h *api.Heap){
		func(h *api.Heap) { h.Space = 1 },
		func(h *api.Heap) { h.Pages[0].Space = 1 },
		func(h *api.Heap) { h.Pages[1].Space, h.Pages[2].Space = 1, 1 },
		func(h *api.Heap) { h.Pages[6].Space = 1 },
		func(h *api.Heap) { h.Words[0] = 0 },
		func(h *api.Heap) { h.Words[0] = 2 + 4*4160 }, // a forwarding word
		func(h *api.Heap) { h.Pages[0].Used = 13 },
		func(h *api.Heap) { h.Pages[0].Used = 15 },
		func(h *api.Heap) { h.Words[0] = 1 + 3<<2 + 4<<4 }, // not small
		func(h *api.Heap) { h.Words[96] = 1 + 15<<4 },      // a large Filler
		func(h *api.Heap) { h.Words[14] = 1 },              // behind the objects of a page
		func(h *api.Heap) { h.Words[64] = 1 },              // on a FreePage
		func(h *api.Heap) { h.Words[127] = 1 },             // on a page on which nothing is
		func(h *api.Heap) { h.Words[5] = 1 },               // in a Filler
		func(h *api.Heap) { h.Words[36] = 1 },              // behind a large object
		func(h *api.Heap) { h.Words[1] = 4103 },            // a pointer to a field
		func(h *api.Heap) { h.Words[1] = 4100 },            // to a Filler
		func(h *api.Heap) { h.Words[55] = 4160 },           // to a FreePage
		func(h *api.Heap) { h.Words[81] = 1 },              // to no address
		func(h *api.Heap) { h.Pages[0].Pins = 1 },          // the third page with pins
		func(h *api.Heap) { h.Pages[5].Pins = 1 },
	})
}
