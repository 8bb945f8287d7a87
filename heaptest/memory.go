package heaptest

import (
	"slices"

	"semispace/api"
)

// Guarded returns copies of a heap and of lists, with marks behind their
// slices, and a function that reports whether all of this is still as it was.
func Guarded(h api.Heap, lists ...[]uint64) (api.Heap, [][]uint64, func() bool) {
	h = RoomyHeap(h)
	before := WholeHeap(h)
	var roomy, whole [][]uint64
	for _, l := range lists {
		roomy = append(roomy, Roomy(l, 77))
		whole = append(whole, Whole(roomy[len(roomy)-1]))
	}
	return h, roomy, func() bool {
		for k, l := range roomy {
			if !slices.Equal(Whole(l), whole[k]) {
				return false
			}
		}
		return SameHeap(WholeHeap(h), before)
	}
}

// Overwrite writes into the slices of a heap and into lists, and behind them. It
// reports whether no two of them share memory.
func Overwrite(h api.Heap, lists ...[]uint64) bool {
	for i := range h.Pages[:cap(h.Pages)] {
		h.Pages[:cap(h.Pages)][i] = api.Page{Kind: 88}
	}
	lists = append(slices.Clone(lists), h.Words)
	for k, l := range lists {
		for i := range l[:cap(l)] {
			l[:cap(l)][i] = uint64(k)
		}
	}
	for k, l := range lists {
		if slices.ContainsFunc(l[:cap(l)], func(w uint64) bool { return w != uint64(k) }) {
			return false
		}
	}
	return true
}
