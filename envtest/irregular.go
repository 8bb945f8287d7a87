package envtest

import (
	"slices"

	"semispace/api"
	"semispace/heaptest"
	"semispace/pin"
	"semispace/scope"
	"semispace/slots"
)

// maker makes irregular environments.
type maker struct {
	*heaptest.Numbers
	objects []uint64 // the addresses of all objects
	env     api.Env
}

// Irregular returns an irregular environment that is valid. Its heap need not be
// one that the calls of the system make.
func Irregular(x *heaptest.Numbers) api.Env {
	s := x.Scene()
	s.Pinned = nil
	m := maker{Numbers: x, env: api.Env{Heap: s.Heap()}}
	for k, ref := range s.Addresses() {
		if !s.Things[k].IsFiller() {
			m.objects = append(m.objects, ref)
		}
	}
	for range x.Below(6) {
		m.env.Roots = append(m.env.Roots, m.ref(3))
	}
	if len(m.objects) > 0 {
		m.makeLocals()
		m.env.Globals = m.table(0)
		m.env.Weaks = m.table(4)
		m.makePins()
	}
	return m.env
}

// ref returns the address of an object, or null in one of n cases, unless n is
// 0.
func (m *maker) ref(n int) uint64 {
	if len(m.objects) == 0 || n > 0 && m.Below(n) == 0 {
		return 0
	}
	return m.objects[m.Below(len(m.objects))]
}

// makeLocals opens and closes scopes, and makes and deletes handles in them.
func (m *maker) makeLocals() {
	l := m.env.Locals
	for range m.Below(30) {
		next, e := l, api.OK
		switch m.Below(10) {
		case 0:
			next, e = scope.Enter(l, m.Below(6))
		case 1:
			next, e = scope.Push(l, m.Below(6))
		case 2:
			next, e = scope.Pop(l)
		case 3:
			if m.Below(3) == 0 {
				next, e = scope.Leave(l)
			}
		case 4:
			if n := len(l.Slots); n > 0 {
				i := m.Below(n)
				next, e = scope.Delete(l, i, l.Slots[i].Stamp)
			}
		default:
			next, _, _, e = scope.New(l, m.ref(0))
		}
		if e == api.OK {
			l = next
		}
	}
	m.env.Locals = l
}

// table returns a table in which handles have been made and deleted, with null
// in one of so many entries.
func (m *maker) table(nulls int) api.Table {
	var a api.Table
	for range m.Below(16) {
		i := m.Below(len(a.Entries) + 1)
		if i < len(a.Entries) && m.Below(2) == 0 {
			if next, e := slots.Delete(a, i, a.Entries[i].Gen); e == api.OK {
				a = next
			}
			continue
		}
		a, _, _, _ = slots.New(a, m.ref(nulls))
	}
	return a
}

// makePins pins objects as often as the heap allows it.
func (m *maker) makePins() {
	for range m.Below(6) {
		ref := m.ref(0)
		for range 1 + m.Below(3) {
			if h, pins, _, e := pin.Get(m.env.Heap, m.env.Pins, ref); e == api.OK {
				m.env.Heap, m.env.Pins = h, pins
			}
		}
	}
}

// Spoil changes an environment, mostly in one thing, after which it need not be
// valid.
func Spoil(x *heaptest.Numbers, y *api.Env) {
	kinds := []func(*heaptest.Numbers, *api.Env){spoilHeap, spoilLocals, spoilTable, spoilTable, spoilPins, spoilRoots}
	kinds[x.Below(len(kinds))](x, y)
}

// SpoilHandles changes handles of an environment, as Spoil does.
func SpoilHandles(x *heaptest.Numbers, y *api.Env) {
	if x.Below(2) == 0 {
		spoilLocals(x, y)
	} else {
		spoilTable(x, y)
	}
}

func spoilHeap(x *heaptest.Numbers, y *api.Env) {
	if x.Below(3) > 0 {
		x.Spoil(&y.Heap)
		return
	}
	y.Heap.Pages[x.Below(len(y.Heap.Pages))].Pins += x.Below(3) - 1
}

func spoilLocals(x *heaptest.Numbers, y *api.Env) {
	l := &y.Locals
	if len(l.Slots) == 0 {
		return
	}
	s := &l.Slots[x.Below(len(l.Slots))]
	switch x.Below(6) {
	case 0:
		s.Stamp += x.Below(3) - 1
	case 1:
		s.Live = !s.Live
	case 2:
		s.Ref = strange(x, *y)
	case 3:
		l.Issued[x.Below(len(l.Issued))] += x.Below(3) - 1
	case 4:
		l.Scopes[x.Below(len(l.Scopes))].Cap += x.Below(5) - 2
	case 5:
		l.Scopes[x.Below(len(l.Scopes))].From += x.Below(3) - 1
	}
}

func spoilTable(x *heaptest.Numbers, y *api.Env) {
	l := y.Globals.Entries
	if x.Below(2) == 0 {
		l = y.Weaks.Entries
	}
	if len(l) == 0 {
		return
	}
	switch s := &l[x.Below(len(l))]; x.Below(4) {
	case 0:
		s.Gen += x.Below(3) - 1
	case 1:
		s.Live = !s.Live
	default:
		s.Ref = strange(x, *y)
	}
}

func spoilPins(x *heaptest.Numbers, y *api.Env) {
	if len(y.Pins) == 0 {
		return
	}
	switch s := &y.Pins[x.Below(len(y.Pins))]; x.Below(3) {
	case 0:
		s.Count += x.Below(3) - 1
	case 1:
		s.Ref += uint64(x.Below(3)) - 1
	case 2:
		y.Pins = slices.Delete(y.Pins, 0, x.Below(2))
	}
}

func spoilRoots(x *heaptest.Numbers, y *api.Env) {
	y.Roots = append(y.Roots, strange(x, *y))
}

// strange returns something that may be the address of an object.
func strange(x *heaptest.Numbers, y api.Env) uint64 {
	if x.Below(4) == 0 {
		return 0
	}
	return 4090 + uint64(x.Below(len(y.Heap.Words)+12))
}
