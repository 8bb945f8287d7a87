package boundary_test

import (
	"slices"

	"semispace/api"
	"semispace/boundary"
)

// thing is an object as native code knows it: without an address.
type thing struct {
	kind     int
	fields   []uint64 // words, and the numbers of the things that pointers refer to
	pointers []bool
}

// known is a handle that has been made.
type known struct {
	tag int
	id  int       // the number of its thing, or 0 if it is weak and has been cleared
	e   api.Errno // why it cannot be used any more
}

// level is a scope with the handles that were made in it.
type level struct {
	base  bool
	limit int
	made  []*known
}

// live returns how many handles of a scope can be used.
func (l level) live() int {
	n := 0
	for _, y := range l.made {
		if y.e == api.OK {
			n++
		}
	}
	return n
}

// mind is what one knows of an environment that was empty, by the calls alone:
// nothing in it is an address, and nothing is an index or a stamp.
type mind struct {
	things []thing // number 1 and so on
	words  map[uint64]*known
	order  []uint64 // the words of all handles, in the order in which they were made
	levels []level
	pins   map[int]int
}

func newMind() *mind { return &mind{words: map[uint64]*known{}, pins: map[int]int{}} }

// find returns the number of the thing that a word refers to.
func (m *mind) find(w uint64) (int, api.Errno) {
	if w == 0 {
		return 0, api.OK
	}
	y := m.words[w]
	if y == nil {
		return 0, api.ErrForged
	}
	if y.e != api.OK {
		return 0, y.e
	}
	return y.id, api.OK
}

// room returns the error of a local handle of a thing in the scope with so many
// others around it.
func (m *mind) room(id, scope int) api.Errno {
	switch {
	case id == 0:
		return api.OK
	case scope < 0:
		return api.ErrScope
	case m.levels[scope].live() == m.levels[scope].limit:
		return api.ErrCapacity
	}
	return api.OK
}

// usable returns how many handles with a tag can be used.
func (m *mind) usable(tag int) int {
	n := 0
	for _, y := range m.words {
		if y.tag == tag && y.e == api.OK {
			n++
		}
	}
	return n
}

// tagOf are the tags of the handles that calls make or delete.
var tagOf = map[int]int{
	boundary.NewLocal: api.Local, boundary.NewGlobal: api.Global, boundary.NewWeak: api.Weak,
	boundary.DeleteLocal: api.Local, boundary.DeleteGlobal: api.Global, boundary.DeleteWeak: api.Weak,
}

// verdict returns the error of a call, as far as one can know it, and the number
// of the thing that its first handle refers to.
func (m *mind) verdict(r request) (int, api.Errno) {
	last := len(m.levels) - 1
	switch r.op {
	case boundary.NewRecord, boundary.NewRefs, boundary.NewWords:
		if len(m.pins) > 0 {
			return 0, api.ErrCritical
		}
		if r.a > 255 || r.op == boundary.NewRecord && (r.a > 32 || r.b >= 1<<r.a) {
			return 0, api.ErrArg
		}
		return 0, m.room(1, last)
	case boundary.PushScope:
		switch {
		case r.a > 64:
			return 0, api.ErrArg
		case last < 0:
			return 0, api.ErrScope
		case last == 63:
			return 0, api.ErrDepth
		}
		return 0, api.OK
	}
	id, e := m.find(r.a)
	if e != api.OK {
		return 0, e
	}
	switch r.op {
	case boundary.Same:
		_, e = m.find(r.b)
		return id, e
	case boundary.NewLocal:
		return id, m.room(id, last)
	case boundary.PopScope:
		if last < 0 || m.levels[last].base {
			return 0, api.ErrScope
		}
		return id, m.room(id, last-1)
	case boundary.DeleteLocal, boundary.DeleteGlobal, boundary.DeleteWeak:
		if r.a == 0 {
			return 0, api.ErrNull
		}
		if m.words[r.a].tag != tagOf[r.op] {
			return 0, api.ErrKind
		}
		return id, api.OK
	}
	if id == 0 {
		return 0, api.ErrNull
	}
	return id, m.objectVerdict(r, id)
}

// objectVerdict is verdict for the calls that begin with an object.
func (m *mind) objectVerdict(r request, id int) api.Errno {
	switch r.op {
	case boundary.NewGlobal, boundary.NewWeak:
		if m.usable(tagOf[r.op]) == 64 {
			return api.ErrFull
		}
	case boundary.Release:
		if m.pins[id] == 0 {
			return api.ErrUnpinned
		}
	case boundary.GetWord, boundary.SetWord, boundary.GetRef, boundary.SetRef:
		y := m.things[id-1]
		if r.b >= uint64(len(y.fields)) {
			return api.ErrRange
		}
		if y.pointers[r.b] != (r.op == boundary.GetRef || r.op == boundary.SetRef) {
			return api.ErrKind
		}
		if r.op == boundary.GetRef {
			return m.room(int(y.fields[r.b]), len(m.levels)-1)
		}
		if r.op == boundary.SetRef {
			_, e := m.find(r.c)
			return e
		}
	}
	return api.OK
}

// imagine remembers a new thing, and returns its number.
func (m *mind) imagine(r request) int {
	y := thing{kind: r.op, fields: make([]uint64, r.a), pointers: make([]bool, r.a)}
	for i := range y.pointers {
		y.pointers[i] = r.op == boundary.NewRefs || r.op == boundary.NewRecord && r.b>>i&1 == 1
	}
	m.things = append(m.things, y)
	return len(m.things)
}

// hold remembers a new handle of a thing. It reports whether there has never
// been one with this word; for none, the word must be 0.
func (m *mind) hold(w uint64, tag, id int) bool {
	if id == 0 {
		return w == 0
	}
	if w == 0 || m.words[w] != nil {
		return false
	}
	y := &known{tag: tag, id: id}
	m.words[w] = y
	m.order = append(m.order, w)
	if tag == api.Local {
		l := &m.levels[len(m.levels)-1]
		l.made = append(l.made, y)
	}
	return true
}

// close forgets the last scope. Its handles become stale, also those that have
// been deleted.
func (m *mind) close() {
	last := len(m.levels) - 1
	for _, y := range m.levels[last].made {
		y.e = api.ErrStale
	}
	m.levels = m.levels[:last]
}

// reached reports for each number whether its thing can be reached.
func (m *mind) reached() []bool {
	seen := make([]bool, len(m.things)+1)
	var todo []int
	for _, y := range m.words {
		if y.e == api.OK && y.tag != api.Weak {
			todo = append(todo, y.id)
		}
	}
	for id := range m.pins {
		todo = append(todo, id)
	}
	for len(todo) > 0 {
		id := todo[0]
		todo = todo[1:]
		if id == 0 || seen[id] {
			continue
		}
		seen[id] = true
		for i, v := range m.things[id-1].fields {
			if m.things[id-1].pointers[i] {
				todo = append(todo, int(v))
			}
		}
	}
	return seen
}

// clear clears the weak handles of what cannot be reached, and returns of how
// many things.
func (m *mind) clear() int {
	seen, gone := m.reached(), []int{}
	for _, y := range m.words {
		if y.e == api.OK && y.tag == api.Weak && !seen[y.id] && y.id > 0 {
			gone = append(gone, y.id)
			y.id = 0
		}
	}
	slices.Sort(gone)
	return len(slices.Compact(gone))
}
