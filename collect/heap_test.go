package collect_test

import (
	"slices"

	"semispace/api"
	"semispace/heaptest"
)

type scene = heaptest.Scene
type thing = heaptest.Thing

// outcome is what a collection leaves.
type outcome struct {
	scene
	bump   int
	ref    []uint64 // for each thing before it, the reference to it after it, or 0
	report api.Report
}

// leave returns the outcome of a collection in a scene with these strong roots.
// It knows nothing of how a collection goes on: it describes the heap after it
// as another scene. There is none if there are too few FreePages.
func leave(s scene, roots []uint64) (outcome, bool) {
	reached := s.Reached(roots)
	c, ok := s.Place(reached)
	if !ok {
		return outcome{}, false
	}
	o := outcome{scene{Conf: s.Conf, Space: 1 - s.Space}, -1, make([]uint64, len(s.Things)), api.Report{}}
	if n := len(c.Taken); n > 0 {
		o.bump = c.Taken[n-1]
	}
	for k, x := range s.Things {
		o.stay(s, k, x, c.To[k] != 0)
	}
	for _, ref := range reached {
		x := s.Things[ref-1]
		o.report.Steps += 1 + len(x.Pointers())
		if !s.Stays(x) {
			x.Page = int(c.To[ref-1]-4096) / s.Conf.PageWords
			o.put(int(ref-1), x)
			o.report.Copied++
		}
	}
	o.refer()
	o.keepPages(s)
	return o, true
}

// stay puts thing k of the scene before into an outcome if it is not copied,
// but a filler for what is not reachable.
func (o *outcome) stay(s scene, k int, x thing, reachable bool) {
	switch {
	case !s.Stays(x):
	case reachable:
		o.put(k, x)
		o.report.Kept++
	case !s.Large(x):
		o.Things = append(o.Things, heaptest.Filler(x.Page, len(x.Fields)))
		if !x.IsFiller() {
			o.report.Filled++
		}
	}
}

// put puts thing k of the scene before into an outcome.
func (o *outcome) put(k int, x thing) {
	x.Fields = slices.Clone(x.Fields)
	o.Things = append(o.Things, x)
	o.ref[k] = uint64(len(o.Things))
}

// refer replaces references to things before by the ones to things after.
func (o *outcome) refer() {
	for _, x := range o.Things {
		for _, i := range x.Pointers() {
			x.Fields[i] = heaptest.ValueOf(o.ref, x.Fields[i])
		}
	}
}

// keepPages says which pages are pinned after a collection in s, which are
// empty, and how many have been freed.
func (o *outcome) keepPages(s scene) {
	before := s.Heap().Pages
	for _, i := range s.Pinned {
		large := before[i].Kind == api.LargePage
		if !large && before[i].Used == 0 {
			o.Empty = append(o.Empty, i)
		}
		if !large || slices.ContainsFunc(o.Things, func(x thing) bool { return x.Page == i }) {
			o.Pinned = append(o.Pinned, i)
		}
	}
	after := o.Heap().Pages
	for i, p := range before {
		if p.Kind != api.FreePage && after[i].Kind == api.FreePage {
			o.report.Freed++
		}
	}
}

// heap is the heap of an outcome.
func (o outcome) heap() api.Heap {
	h := o.Heap()
	h.Bump = o.bump
	return h
}
