package shadow

import (
	"maps"
	"slices"

	"semispace/api"
	"semispace/header"
	"semispace/rules"
	"semispace/scope"
	"semispace/slots"
)

// search finds out which things can be reached.
type search struct {
	things  []rules.Thing
	reached []bool
	seen    map[uint64]bool // the identities of those that have not been followed yet
}

// see takes note of references that have been found.
func (s *search) see(ids []uint64) {
	for _, id := range ids {
		if id != 0 && !s.reached[id-1] {
			s.reached[id-1], s.seen[id] = true, true
		}
	}
}

// follow looks for references in all things that have been seen.
func (s *search) follow() {
	// Their order is not visible: each of them is reached, whichever comes first.
	ids := slices.Collect(maps.Keys(s.seen))
	clear(s.seen)
	for _, id := range ids {
		s.see(references(s.things[id-1]))
	}
}

// references returns the pointer fields of a thing.
func references(y rules.Thing) []uint64 {
	var ids []uint64
	for _, i := range header.Pointers(y.Header) {
		ids = append(ids, y.Fields[i])
	}
	return ids
}

// Reached reports which things are reachable.
func Reached(w rules.World) []bool {
	if !rules.Valid(w) {
		return nil
	}
	s := search{things: w.Things, reached: make([]bool, len(w.Things)), seen: map[uint64]bool{}}
	s.see(slices.Concat(w.Roots, scope.Refs(w.Locals), slots.Refs(w.Globals), marked(w)))
	for len(s.seen) > 0 {
		s.follow()
	}
	return s.reached
}

// marked returns the identities of the things with marks.
func marked(w rules.World) []uint64 {
	var ids []uint64
	for _, m := range w.Marks {
		ids = append(ids, m.Id)
	}
	return ids
}

// Collect clears weak handles.
func Collect(w rules.World) (rules.World, api.Errno) {
	if !rules.Valid(w) {
		return rules.World{}, api.ErrCorrupt
	}
	out := rules.Copy(w)
	out.Weaks = cleared(w)
	return out, api.OK
}

// cleared returns the weak handles that a valid world has after a collection.
func cleared(w rules.World) api.Table {
	reached, ids := Reached(w), slots.Refs(w.Weaks)
	for k, id := range ids {
		if id != 0 && !reached[id-1] {
			ids[k] = 0
		}
	}
	t, _ := slots.Move(w.Weaks, ids) // they are as many as before
	return t
}
