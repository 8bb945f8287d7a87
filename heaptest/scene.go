package heaptest

import (
	"slices"

	"semispace/api"
)

// Scene describes a heap: what is on its pages, which pages are pinned, and
// which are SmallPages without anything on them.
type Scene struct {
	Conf   api.Conf
	Space  int
	Pinned []int
	Things []Thing
	Empty  []int
}

// Large reports whether a thing has pages of its own.
func (s Scene) Large(x Thing) bool { return 4*x.Size() > s.Conf.PageWords }

// Stays reports whether a collection leaves a reachable thing where it is.
func (s Scene) Stays(x Thing) bool { return s.Large(x) || slices.Contains(s.Pinned, x.Page) }

// Addresses are those of all things, each one behind those before it on its
// page.
func (s Scene) Addresses() []uint64 {
	l, used := make([]uint64, len(s.Things)), make([]int, s.Conf.Pages)
	for k, x := range s.Things {
		l[k] = s.address(x.Page, used[x.Page])
		used[x.Page] += x.Size()
	}
	return l
}

// address is the address of the word with this offset in this page.
func (s Scene) address(page, offset int) uint64 {
	return uint64(4096 + page*s.Conf.PageWords + offset)
}

// Heap returns the heap of a scene. Its Bump is the page of the last small
// thing.
func (s Scene) Heap() api.Heap {
	size := s.Conf.PageWords
	h := api.Heap{Conf: s.Conf, Words: make([]uint64, size*s.Conf.Pages), Pages: make([]api.Page, s.Conf.Pages), Space: s.Space, Bump: -1}
	at := s.Addresses()
	for k, x := range s.Things {
		copy(h.Words[at[k]-4096:], x.Written(at))
		p := &h.Pages[x.Page]
		*p = api.Page{Kind: api.SmallPage, Space: s.Space, Used: p.Used + x.Size()}
		if !s.Large(x) {
			h.Bump = x.Page
			continue
		}
		p.Kind = api.LargePage
		for j := 1; j*size < x.Size(); j++ {
			h.Pages[x.Page+j] = api.Page{Kind: api.TailPage, Space: s.Space}
		}
	}
	for _, i := range s.Empty {
		h.Pages[i] = api.Page{Kind: api.SmallPage, Space: s.Space}
	}
	for _, i := range s.Pinned {
		h.Pages[i].Pins = 1 + i
	}
	return h
}

// Queue returns what a collection has seen, in this order, when roots have been
// forwarded and then so many things been scanned, or as many as there are.
func (s Scene) Queue(roots []uint64, steps int) []uint64 {
	var l []uint64
	see := func(ref uint64) {
		if ref != 0 && !slices.Contains(l, ref) {
			l = append(l, ref)
		}
	}
	for _, ref := range roots {
		see(ref)
	}
	for k := 0; k < steps && k < len(l); k++ {
		x := s.Things[l[k]-1]
		for _, i := range x.Pointers() {
			see(x.Fields[i])
		}
	}
	return l
}

// Reached returns all that is reachable from roots, as Queue does.
func (s Scene) Reached(roots []uint64) []uint64 { return s.Queue(roots, len(s.Things)) }

// Copies are where a collection puts things.
type Copies struct {
	To          []uint64 // for each thing its new address, or 0
	Taken, Used []int    // the pages with copies, and how many words each uses
}

// Place returns where the things of a queue are after a collection, unless
// there are too few FreePages.
func (s Scene) Place(queue []uint64) (Copies, bool) {
	at, free := s.Addresses(), s.free()
	c := Copies{To: make([]uint64, len(at))}
	for _, ref := range queue {
		x := s.Things[ref-1]
		if s.Stays(x) {
			c.To[ref-1] = at[ref-1]
			continue
		}
		k := len(c.Taken) - 1
		if k < 0 || c.Used[k]+x.Size() > s.Conf.PageWords {
			if k++; k == len(free) {
				return Copies{}, false
			}
			c.Taken, c.Used = append(c.Taken, free[k]), append(c.Used, 0)
		}
		c.To[ref-1] = s.address(c.Taken[k], c.Used[k])
		c.Used[k] += x.Size()
	}
	return c, true
}

// free returns the FreePages of a scene.
func (s Scene) free() []int {
	var l []int
	for i, p := range s.Heap().Pages {
		if p.Kind == api.FreePage {
			l = append(l, i)
		}
	}
	return l
}

// Ordinary is a scene of Conf with each kind of page; thing 1 is at 4096.
//
//   - page 0: a Record with two pointers, a Filler at 4100, Words at 4102, two
//     objects without fields, and Refs at 4106; two free words
//   - page 1, at 4112, and page 2: Refs of 19 fields
//   - page 3, at 4144, which is pinned: a Record with one pointer, Words at
//     4147, and Refs at 4150
//   - page 5, at 4176: Refs that refer to each other, 11 at 4176 and 12 at 4179
//   - page 6, at 4192, which is pinned: Words up to its last word
//   - pages 4, at 4160, and 7, at 4208: FreePages
func Ordinary(space int) Scene {
	great := make([]uint64, 19)
	great[0], great[1], great[18] = 1, 7, 9
	return Scene{Conf: Conf, Space: space, Pinned: []int{3, 6}, Things: []Thing{
		Record(0, 5, 3, 4102, 1), Filler(0, 1), Words(0, 4096), Refs(0), Record(0, 0), Refs(0, 0, 8, 0),
		Refs(1, great...),
		Record(3, 2, 4096, 6), Words(3, 5, 1<<64-1), Refs(3, 9),
		Refs(5, 12, 13), Refs(5, 11), Words(6, make([]uint64, 15)...),
	}}
}

// NoObjects are what is no address of an object in a heap of Ordinary.
func NoObjects() []uint64 {
	return []uint64{
		1, 4095, // in front of the arena
		4097, 4099, 4103, 4107, 4113, 4131, 4145, 4193, 4207, // fields
		4100, 4101, 4110, 4111, 4152, 4159, // a Filler and free words
		4128, 4161, 4175, 4208, 4223, // a TailPage and FreePages
		4224, 1<<32 + 4096, 1<<63 + 4096, 1<<64 - 1, // behind the arena
	}
}

// Full is a scene of Conf in which only the last n pages are free: eight
// objects of four words on two pages, which are copied, two objects on a pinned
// page, at 4128 and 4131, and a large one at 4144 with these fields.
func Full(n int, fields ...uint64) Scene {
	s := Scene{Conf: Conf, Pinned: []int{2}}
	for k := range 8 {
		s.Things = append(s.Things, Words(k/4, 1, 2, 3))
	}
	s.Things = append(s.Things, Refs(2, 10, 9), Words(2, 4), Refs(3, append(fields, make([]uint64, 19-len(fields))...)...))
	for i := 5; i < 8-n; i++ {
		s.Things = append(s.Things, Words(i))
	}
	return s
}

// List is a scene of Wide with n objects of one field on the first pages, each
// of which refers to the next one, or if back is true, to the one before it.
func List(n int, back bool) Scene {
	s := Scene{Conf: Wide}
	for k := range n { // 32 on each page
		next := uint64((k + 2) % (n + 1))
		if back {
			next = uint64(k)
		}
		s.Things = append(s.Things, Refs(k/32, next))
	}
	return s
}

// AllUsed is a scene of Wide in which each page has an object that uses all its
// words, and from which all others can be reached.
func AllUsed() Scene {
	x := Numbers(1)
	s := Scene{Conf: Wide}
	for i := range 64 {
		s.Things = append(s.Things, Refs(i, make([]uint64, 63)...))
	}
	x.setFields(s)
	for k := range s.Things {
		s.Things[k].Fields[62] = uint64((k+1)%64 + 1)
	}
	return s
}
