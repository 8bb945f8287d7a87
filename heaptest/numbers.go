package heaptest

import (
	"semispace/api"
	"semispace/graph"
)

// Numbers is a sequence of numbers that look irregular, the same ones in each
// run. It must not be 0.
type Numbers uint64

// Below returns a number from 0 to n-1.
func (x *Numbers) Below(n int) int {
	*x ^= *x << 13
	*x ^= *x >> 7
	*x ^= *x << 17
	return int(uint64(*x) % uint64(n))
}

// Scene returns an irregular scene.
func (x *Numbers) Scene() Scene {
	n := 16 + 4*x.Below(13)
	s := Scene{Conf: api.Conf{PageWords: n, Pages: 8 + x.Below(20)}, Space: x.Below(2)}
	pins := s.Conf.Pages / 4 // as many SmallPages may be pinned
	gaps := x.Below(3)       // more of them, more FreePages
	for i := 0; i < s.Conf.Pages; i++ {
		switch x.Below(3 + gaps) {
		case 0, 1:
			x.small(&s, i)
			if pins > 0 && x.Below(3) == 0 {
				s.Pinned = append(s.Pinned, i)
				pins--
			}
		case 2:
			k := min(1+x.Below(4), s.Conf.Pages-i)
			least := max((k-1)*n, n/4)
			s.Things = append(s.Things, x.thing(i, 2+x.Below(2), least+x.Below(k*n-least)))
			if x.Below(2) == 0 {
				s.Pinned = append(s.Pinned, i)
			}
			i += k - 1
		}
	}
	x.setFields(s)
	return s
}

// small makes page i of a scene a SmallPage.
func (x *Numbers) small(s *Scene, i int) {
	before := len(s.Things)
	for left := s.Conf.PageWords; left > 0 && x.Below(12) > 0; {
		size := 1 + x.Below(min(left, s.Conf.PageWords/4))
		s.Things = append(s.Things, x.thing(i, x.Below(4), size-1))
		left -= size
	}
	if before == len(s.Things) {
		s.Empty = append(s.Empty, i)
	}
}

// thing returns a thing of this kind with so many fields, at most 32 if it is a
// Record.
func (x *Numbers) thing(page, kind, n int) Thing {
	hd := api.Header{Kind: kind, Length: n}
	if kind == api.Record {
		hd.Map = uint32(x.Below(1 << n))
	}
	return Thing{page, graph.Node{Header: hd, Fields: make([]uint64, n)}}
}

// setFields gives irregular values to the fields of all objects of a scene. Data
// fields often look like addresses.
func (x *Numbers) setFields(s Scene) {
	for _, y := range s.Things {
		for i := range y.Fields {
			if !y.IsFiller() {
				y.Fields[i] = 4096 + uint64(x.Below(4*len(s.Things)+s.Conf.PageWords*s.Conf.Pages))
			}
		}
		for _, i := range y.Pointers() {
			y.Fields[i] = x.ref(s)
		}
	}
}

// ref returns 0, or a reference to an object of a scene.
func (x *Numbers) ref(s Scene) uint64 {
	if len(s.Things) == 0 || x.Below(4) == 0 {
		return 0
	}
	k := x.Below(len(s.Things))
	if s.Things[k].IsFiller() {
		return 0
	}
	return uint64(k + 1)
}

// Refs returns n of them.
func (x *Numbers) Refs(s Scene, n int) []uint64 {
	l := make([]uint64, n)
	for k := range l {
		l[k] = x.ref(s)
	}
	return l
}

// SomeRefs returns about n references without a scene, seldom with a null one.
func (x *Numbers) SomeRefs(n int) []uint64 {
	if x.Below(4) == 0 {
		n = max(n+x.Below(3)-1, 0)
	}
	l := make([]uint64, n)
	for k := range l {
		l[k] = uint64(x.Below(40))
	}
	return l
}

// Spoil changes one to three things in the heap of a scene, after which it may
// be as strange as can be.
func (x *Numbers) Spoil(h *api.Heap) {
	for range 1 + x.Below(3) {
		switch x.Below(6) {
		case 0:
			h.Words[x.Below(len(h.Words))] = uint64(x.Below(9000))
		case 1:
			h.Pages[x.Below(len(h.Pages))] = api.Page{Kind: x.Below(4), Space: x.Below(2), Used: x.Below(20), Pins: x.Below(2)}
		case 2:
			h.Pages[x.Below(len(h.Pages))].Pins++
		case 3:
			h.Pages[x.Below(len(h.Pages))].Used += x.Below(3) - 1
		case 4:
			h.Bump = x.Below(len(h.Pages)+2) - 1
		case 5:
			h.Space = x.Below(3)
		}
	}
}
