// Package worldtest describes worlds for the tests of other packages: an
// ordinary one, the models of environments, irregular ones, and others that are
// at a limit or not valid.
package worldtest

import (
	"slices"

	"semispace/api"
	"semispace/envtest"
	"semispace/graph"
	"semispace/heaptest"
	"semispace/object"
	"semispace/rules"
	"semispace/walk"
)

// Words is a thing without pointer fields.
func Words(l ...uint64) rules.Thing { return rules.Thing(heaptest.Words(0, l...).Node) }

// Refs is a thing with only pointer fields.
func Refs(l ...uint64) rules.Thing { return rules.Thing(heaptest.Refs(0, l...).Node) }

// Record is a thing with the pointer fields of a map.
func Record(m uint32, l ...uint64) rules.Thing { return rules.Thing(heaptest.Record(0, m, l...).Node) }

// Pointers are the numbers of the pointer fields of a thing.
func Pointers(y rules.Thing) []int { return heaptest.Thing{Node: graph.Node(y)}.Pointers() }

// Ordinary is a model of envtest.Ordinary. Its things are those of
// heaptest.Ordinary, but for thing 2, of which only a filler is left there.
func Ordinary() rules.World {
	live, dead := envtest.Live, envtest.Dead
	w := rules.World{
		Conf:    heaptest.Conf,
		Locals:  envtest.Locals(6, 12, 7, 6),
		Globals: api.Table{Entries: []api.Entry{dead(4), live(1, 9), dead(envtest.MaxGen), live(7, 4)}},
		Weaks: api.Table{Entries: []api.Entry{
			live(1, 5), live(2, 1), dead(1), live(3, 0), live(envtest.MaxGen, 3), live(1, 7), live(5, 5),
		}},
		Marks: []rules.Mark{{Id: 9, Count: 2, Base: 4148}, {Id: 13, Count: 1, Base: 4193}, {Id: 10, Count: 3, Base: 4151}},
		Roots: []uint64{1, 0, 8, 1},
	}
	for _, y := range heaptest.Ordinary(0).Things {
		w.Things = append(w.Things, rules.Thing(y.Node))
	}
	w.Things[1] = Words(13)
	return w
}

// Of returns the model of an environment that is valid, with its objects in the
// order of their addresses.
func Of(x api.Env) rules.World { return model(x, objects(x), nil) }

// Scattered returns a model of an environment that is valid, with its objects in
// irregular order, and things among them that are none.
func Scattered(n *heaptest.Numbers, x api.Env) rules.World {
	order := append(objects(x), make([]uint64, n.Below(4))...)
	for k := range order {
		j := k + n.Below(len(order)-k)
		order[k], order[j] = order[j], order[k]
	}
	return model(x, order, n)
}

// objects returns the addresses of all objects.
func objects(x api.Env) []uint64 {
	l, _ := walk.Objects(x.Heap)
	return l
}

// model returns the model of an environment in which the things are the objects
// with these addresses. What has none is an irregular thing.
func model(x api.Env, order []uint64, n *heaptest.Numbers) rules.World {
	ids := map[uint64]uint64{}
	for k, ref := range order {
		if ref != 0 {
			ids[ref] = uint64(k + 1)
		}
	}
	x = envtest.Copied(x)
	w := rules.World{Conf: x.Heap.Conf, Locals: x.Locals, Globals: x.Globals, Weaks: x.Weaks, Roots: x.Roots}
	for _, ref := range order {
		if ref == 0 {
			w.Things = append(w.Things, someThing(n, len(order)))
		} else {
			w.Things = append(w.Things, thingAt(x.Heap, ref, ids))
		}
	}
	for i := range w.Locals.Slots {
		w.Locals.Slots[i].Ref = ids[w.Locals.Slots[i].Ref]
	}
	for _, l := range [][]api.Entry{w.Globals.Entries, w.Weaks.Entries} {
		for i := range l {
			l[i].Ref = ids[l[i].Ref]
		}
	}
	for k, ref := range w.Roots {
		w.Roots[k] = ids[ref]
	}
	for _, p := range x.Pins {
		w.Marks = append(w.Marks, rules.Mark{Id: ids[p.Ref], Count: p.Count, Base: p.Ref + 1})
	}
	return w
}

// thingAt returns the thing of an object.
func thingAt(h api.Heap, ref uint64, ids map[uint64]uint64) rules.Thing {
	hd, _ := object.Get(h, ref)
	fields, _ := object.Fields(h, ref)
	y := rules.Thing{Header: hd, Fields: fields}
	for _, i := range Pointers(y) {
		y.Fields[i] = ids[y.Fields[i]]
	}
	return y
}

// someThing returns an irregular thing in a world of so many things.
func someThing(n *heaptest.Numbers, things int) rules.Thing {
	l := make([]uint64, n.Below(9))
	for i := range l {
		l[i] = uint64(n.Below(things + 1))
	}
	return []rules.Thing{Words(l...), Refs(l...), Record(uint32(n.Below(1<<len(l))), l...)}[n.Below(3)]
}

// Copied returns a copy of a world.
func Copied(w rules.World) rules.World {
	x := envtest.Copied(handlesOf(w))
	w.Things = slices.Clone(w.Things)
	for k := range w.Things {
		w.Things[k].Fields = slices.Clone(w.Things[k].Fields)
	}
	w.Locals, w.Globals, w.Weaks, w.Roots = x.Locals, x.Globals, x.Weaks, x.Roots
	w.Marks = slices.Clone(w.Marks)
	return w
}

// handlesOf is an environment with only the handles and the roots of a world.
func handlesOf(w rules.World) api.Env {
	return api.Env{Locals: w.Locals, Globals: w.Globals, Weaks: w.Weaks, Roots: w.Roots}
}

// Changed returns a copy of a world that has been changed.
func Changed(w rules.World, change func(w *rules.World)) rules.World {
	w = Copied(w)
	change(&w)
	return w
}

// Each returns a copy of a world for each of these functions, which changes it.
func Each(w rules.World, changes ...func(w *rules.World)) []rules.World {
	l := make([]rules.World, len(changes))
	for k, change := range changes {
		l[k] = Changed(w, change)
	}
	return l
}

// Same reports whether two worlds are equal.
func Same(v, w rules.World) bool {
	return v.Conf == w.Conf && slices.EqualFunc(v.Things, w.Things, sameThing) && slices.Equal(v.Marks, w.Marks) &&
		envtest.Same(handlesOf(v), handlesOf(w))
}

// sameThing reports whether two things are equal.
func sameThing(y, z rules.Thing) bool {
	return y.Header == z.Header && slices.Equal(y.Fields, z.Fields)
}

// Guarded returns a copy of a world with marks behind its slices, and a function
// that reports whether all of this is still as it was.
func Guarded(w rules.World) (rules.World, func() bool) {
	x, unchanged := envtest.Guarded(handlesOf(w))
	w.Locals, w.Globals, w.Weaks, w.Roots = x.Locals, x.Globals, x.Weaks, x.Roots
	w.Marks = heaptest.Roomy(w.Marks, rules.Mark{Count: 77})
	w.Things = heaptest.Roomy(w.Things, Words(77))
	for k := range w.Things {
		w.Things[k].Fields = heaptest.Roomy(w.Things[k].Fields, 77)
	}
	before := whole(w)
	return w, func() bool { return unchanged() && Same(whole(w), before) }
}

// whole returns a copy of the things and marks of a world with what is behind
// its slices.
func whole(w rules.World) rules.World {
	w = rules.World{Conf: w.Conf, Things: heaptest.Whole(w.Things), Marks: heaptest.Whole(w.Marks)}
	for k := range w.Things {
		w.Things[k].Fields = heaptest.Whole(w.Things[k].Fields)
	}
	return w
}

// Overwrite writes into the slices of a world, and behind them. It reports
// whether no two of them share memory.
func Overwrite(w rules.World) bool {
	var lists [][]uint64
	for _, y := range w.Things {
		lists = append(lists, y.Fields)
	}
	apart := heaptest.Overwrite(api.Heap{}, append(lists, w.Roots)...)
	envtest.Fill(w.Things, rules.Thing{})
	envtest.Fill(w.Marks, rules.Mark{Count: 88})
	return envtest.Overwrite(handlesOf(w)) && apart
}
