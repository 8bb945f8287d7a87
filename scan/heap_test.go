package scan_test

import (
	"slices"

	"semispace/api"
	"semispace/evacuate"
	"semispace/heaptest"
)

type scene = heaptest.Scene

// model returns the Work when roots have been forwarded and then so many things
// been scanned, and the new address of each thing. It lays out all of it at
// once. There is no such Work if there are too few FreePages.
func model(s scene, roots []uint64, steps int) (evacuate.Work, []uint64, bool) {
	queue := s.Queue(roots, steps)
	c, ok := s.Place(queue)
	if !ok {
		return evacuate.Work{}, nil, false
	}
	at := s.Addresses()
	w := evacuate.Work{Heap: s.Heap(), Taken: c.Taken, Queue: heaptest.ValuesOf(c.To, queue), Scanned: steps}
	for k, x := range s.Things {
		if !x.IsFiller() {
			w.Old = append(w.Old, at[k])
		}
	}
	slices.Sort(w.Old)
	for k, i := range c.Taken {
		w.Heap.Pages[i] = api.Page{Kind: api.SmallPage, Space: 1 - s.Space, Used: c.Used[k]}
	}
	for _, i := range s.Pinned {
		if w.Heap.Pages[i].Kind == api.SmallPage {
			w.Heap.Pages[i].Space = 1 - s.Space
		}
	}
	for k, ref := range queue {
		values := at // not yet scanned
		if k < steps {
			values = c.To
			w.Report.Steps += 1 + len(s.Things[ref-1].Pointers())
		}
		see(&w, s, ref, c.To[ref-1], values)
	}
	return w, c.To, true
}

// see changes a Work as a thing does that is seen, kept or copied, and then has
// references with these values.
func see(w *evacuate.Work, s scene, ref, to uint64, values []uint64) {
	x, from := s.Things[ref-1], s.Addresses()[ref-1]
	if from == to {
		w.Report.Kept++
	} else {
		w.Report.Copied++
		w.Heap.Words[from-4096] = 2 + 4*to
	}
	copy(w.Heap.Words[to-4096:], x.Written(values))
	for j := 0; s.Large(x) && j*s.Conf.PageWords < x.Size(); j++ {
		w.Heap.Pages[x.Page+j].Space = 1 - s.Space
	}
}

// sameWork reports whether two Works are equal.
func sameWork(a, b evacuate.Work) bool {
	return heaptest.SameHeap(a.Heap, b.Heap) &&
		slices.Equal(a.Old, b.Old) && slices.Equal(a.Taken, b.Taken) && slices.Equal(a.Queue, b.Queue) &&
		a.Scanned == b.Scanned && a.Report == b.Report
}

// roomyWork is heaptest.Roomy for all slices of a Work.
func roomyWork(w evacuate.Work) evacuate.Work {
	w.Heap = heaptest.RoomyHeap(w.Heap)
	w.Old, w.Taken, w.Queue = heaptest.Roomy(w.Old, 77), heaptest.Roomy(w.Taken, 77), heaptest.Roomy(w.Queue, 77)
	return w
}

// wholeWork is heaptest.Whole for all slices of a Work.
func wholeWork(w evacuate.Work) evacuate.Work {
	w.Heap = heaptest.WholeHeap(w.Heap)
	w.Old, w.Taken, w.Queue = heaptest.Whole(w.Old), heaptest.Whole(w.Taken), heaptest.Whole(w.Queue)
	return w
}
