package worldtest

import (
	"slices"

	"semispace/envtest"
	"semispace/heaptest"
	"semispace/rules"
)

// Irregular returns an irregular world that is valid. Its marks may have fields
// with the same addresses.
func Irregular(n *heaptest.Numbers) rules.World {
	w := Scattered(n, envtest.Irregular(n))
	if n.Below(2) == 0 {
		for k := range w.Marks {
			w.Marks[k].Base = uint64(n.Below(20)) - 10 // which may wrap around
		}
	}
	return w
}

// Spoil changes a world in one thing, after which it need not be valid.
func Spoil(n *heaptest.Numbers, w *rules.World) {
	kinds := []func(*heaptest.Numbers, *rules.World){spoilConf, spoilThing, spoilThing, spoilHandles, spoilMark, spoilMark, spoilRoots}
	kinds[n.Below(len(kinds))](n, w)
}

func spoilConf(n *heaptest.Numbers, w *rules.World) {
	if n.Below(2) == 0 {
		w.Conf.PageWords += n.Below(9) - 4
	} else {
		w.Conf.Pages += n.Below(9) - 4
	}
}

func spoilThing(n *heaptest.Numbers, w *rules.World) {
	if len(w.Things) == 0 {
		return
	}
	switch y := &w.Things[n.Below(len(w.Things))]; n.Below(6) {
	case 0:
		y.Header.Kind += n.Below(3) - 1
	case 1:
		y.Header.Length += n.Below(3) - 1
	case 2:
		y.Header.Map += uint32(n.Below(3)) - 1
	case 3:
		y.Fields = append(y.Fields, 0)
	default:
		if len(y.Fields) > 0 {
			y.Fields[n.Below(len(y.Fields))] = strange(n, *w)
		}
	}
}

func spoilHandles(n *heaptest.Numbers, w *rules.World) {
	x := handlesOf(*w)
	envtest.SpoilHandles(n, &x)
	w.Locals, w.Globals, w.Weaks = x.Locals, x.Globals, x.Weaks
	if len(w.Locals.Slots) > 0 && n.Below(3) == 0 {
		w.Locals.Slots[n.Below(len(w.Locals.Slots))].Ref = strange(n, *w)
	}
	if len(w.Globals.Entries) > 0 && n.Below(3) == 0 {
		w.Globals.Entries[n.Below(len(w.Globals.Entries))].Ref = strange(n, *w)
	}
	if len(w.Weaks.Entries) > 0 && n.Below(3) == 0 {
		w.Weaks.Entries[n.Below(len(w.Weaks.Entries))].Ref = strange(n, *w)
	}
}

func spoilMark(n *heaptest.Numbers, w *rules.World) {
	if len(w.Marks) == 0 {
		return
	}
	switch m := &w.Marks[n.Below(len(w.Marks))]; n.Below(4) {
	case 0:
		m.Count += n.Below(5) - 2
	case 1:
		m.Id = strange(n, *w)
	case 2:
		w.Marks = append(w.Marks, rules.Mark{Id: strange(n, *w), Count: 1})
	case 3:
		w.Marks = slices.Delete(w.Marks, 0, 1)
	}
}

func spoilRoots(n *heaptest.Numbers, w *rules.World) { w.Roots = append(w.Roots, strange(n, *w)) }

// strange returns something that may be the identity of a thing.
func strange(n *heaptest.Numbers, w rules.World) uint64 {
	return uint64(n.Below(len(w.Things) + 4))
}

// SomeCall returns a boundary call, with arguments that it mostly can have.
func SomeCall(n *heaptest.Numbers, w rules.World) (op int, a, b, c uint64) {
	return envtest.SomeCall(n, handlesOf(w))
}
