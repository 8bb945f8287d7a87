package boundary_test

import (
	"semispace/api"
	"semispace/env"
	"semispace/envtest"
)

// model does a call as the table of 19.1 says, on the words, slots, entries and
// pins of an environment. All numbers are written out. Only the allocation is
// that of package env.
type model struct {
	request
	x api.Env
}

// expected is Call for an environment that is valid.
func expected(x api.Env, r request) (api.Env, uint64, api.Errno) {
	m := model{r, envtest.Copied(x)}
	v, e := m.do()
	if e != api.OK {
		return api.Env{}, 0, e
	}
	return m.x, v, api.OK
}

func (m *model) do() (uint64, api.Errno) {
	switch m.op {
	case 1, 2, 3:
		return m.create()
	case 4, 5, 6, 7, 8, 9, 13, 15, 19, 20:
		ref, e := m.resolve(m.a)
		if e == api.OK && ref == 0 {
			e = api.ErrNull
		}
		if e != api.OK {
			return 0, e
		}
		return m.doObject(ref)
	case 10:
		return m.same()
	case 11:
		ref, e := m.resolve(m.a)
		if e != api.OK {
			return 0, e
		}
		return m.local(ref)
	case 12, 14, 16:
		return 0, m.remove()
	case 17:
		return 0, m.push()
	case 18:
		return m.pop()
	}
	return 0, api.ErrArg
}

// doObject is do for the calls that begin with an object.
func (m *model) doObject(ref uint64) (uint64, api.Errno) {
	w := m.x.Heap.Words[ref-4096]
	switch m.op {
	case 4:
		return w >> 4 & 4095, api.OK
	case 5:
		return w >> 2 & 3, api.OK
	case 13:
		return m.add(2, &m.x.Globals)
	case 15:
		return m.add(3, &m.x.Weaks)
	case 19:
		return m.pin(ref)
	case 20:
		return 0, m.unpin(ref)
	}
	return m.doField(ref, w)
}

// doField is do for the calls that begin with a field of an object with a
// header.
func (m *model) doField(ref, header uint64) (uint64, api.Errno) {
	if m.b >= header>>4&4095 {
		return 0, api.ErrRange
	}
	kind := header >> 2 & 3
	pointer := kind == 2 || kind == 1 && header>>(16+m.b)&1 == 1
	if pointer != (m.op >= 8) {
		return 0, api.ErrKind
	}
	field := &m.x.Heap.Words[ref-4096+1+m.b]
	switch m.op {
	case 7:
		*field = m.c
		return 0, api.OK
	case 8:
		return m.local(*field)
	case 9:
		v, e := m.resolve(m.c)
		*field = v
		return 0, e
	}
	return *field, api.OK
}

// resolve returns what a word refers to.
func (m *model) resolve(w uint64) (uint64, api.Errno) {
	if w == 0 {
		return 0, api.OK
	}
	index, stamp := int(w>>2%65536), int(w>>18)
	if stamp == 0 || w>>50 > 0 {
		return 0, api.ErrForged
	}
	switch w % 4 {
	case 1:
		return m.slot(index, stamp)
	case 2:
		return entry(m.x.Globals, index, stamp)
	case 3:
		return entry(m.x.Weaks, index, stamp)
	}
	return 0, api.ErrForged
}

func (m *model) slot(index, stamp int) (uint64, api.Errno) {
	l := m.x.Locals
	if stamp > len(l.Issued) || l.Issued[stamp-1] != index {
		return 0, api.ErrForged
	}
	if index >= len(l.Slots) || l.Slots[index].Stamp != stamp {
		return 0, api.ErrStale
	}
	if !l.Slots[index].Live {
		return 0, api.ErrDeleted
	}
	return l.Slots[index].Ref, api.OK
}

func entry(t api.Table, index, gen int) (uint64, api.Errno) {
	if index >= len(t.Entries) || gen > t.Entries[index].Gen {
		return 0, api.ErrForged
	}
	if gen < t.Entries[index].Gen || !t.Entries[index].Live {
		return 0, api.ErrDeleted
	}
	return t.Entries[index].Ref, api.OK
}

// asked returns the header of the object that a call asks for, if there is such
// an object.
func asked(x api.Env, r request) (api.Header, bool) {
	switch {
	case r.op < 1 || r.op > 3 || r.a > 255 || int(r.a)+1 > 4*x.Heap.Conf.PageWords:
		return api.Header{}, false
	case r.op > 1:
		return api.Header{Kind: r.op, Length: int(r.a)}, true
	case r.a > 32 || r.b >= 1<<r.a:
		return api.Header{}, false
	}
	return api.Header{Kind: 1, Length: int(r.a), Map: uint32(r.b)}, true
}

func (m *model) create() (uint64, api.Errno) {
	if len(m.x.Pins) > 0 {
		return 0, api.ErrCritical
	}
	hd, ok := asked(m.x, m.request)
	if !ok {
		return 0, api.ErrArg
	}
	if e := m.room(); e != api.OK {
		return 0, e
	}
	x, ref, e := env.Alloc(m.x, hd)
	if e != api.OK {
		return 0, e
	}
	m.x = x
	return m.local(ref)
}

// room returns the error of another local handle.
func (m *model) room() api.Errno {
	l := m.x.Locals
	if len(l.Scopes) == 0 {
		return api.ErrScope
	}
	last, n := l.Scopes[len(l.Scopes)-1], 0
	for _, s := range l.Slots[last.From:] {
		if s.Live {
			n++
		}
	}
	if n == last.Cap {
		return api.ErrCapacity
	}
	if len(l.Issued) == 4096 {
		return api.ErrFull
	}
	return api.OK
}

func (m *model) local(ref uint64) (uint64, api.Errno) {
	if ref == 0 {
		return 0, api.OK
	}
	if e := m.room(); e != api.OK {
		return 0, e
	}
	l := &m.x.Locals
	i, stamp := len(l.Slots), len(l.Issued)+1
	l.Slots = append(l.Slots, api.Slot{Stamp: stamp, Ref: ref, Live: true})
	l.Issued = append(l.Issued, i)
	return envtest.Word(1, i, stamp), api.OK
}

func (m *model) same() (uint64, api.Errno) {
	ref, e := m.resolve(m.a)
	other, f := m.resolve(m.b)
	switch {
	case e != api.OK:
		return 0, e
	case f != api.OK:
		return 0, f
	case ref == other:
		return 1, api.OK
	}
	return 0, api.OK
}

// add makes a handle of the object of a in a table.
func (m *model) add(tag int, t *api.Table) (uint64, api.Errno) {
	ref, _ := m.resolve(m.a)
	for i, y := range t.Entries {
		if !y.Live && y.Gen < envtest.MaxGen {
			t.Entries[i] = envtest.Live(y.Gen+1, ref)
			return envtest.Word(tag, i, y.Gen+1), api.OK
		}
	}
	if len(t.Entries) == 64 {
		return 0, api.ErrFull
	}
	t.Entries = append(t.Entries, envtest.Live(1, ref))
	return envtest.Word(tag, len(t.Entries)-1, 1), api.OK
}

// remove deletes the handle a.
func (m *model) remove() api.Errno {
	if m.a == 0 {
		return api.ErrNull
	}
	if _, e := m.resolve(m.a); e != api.OK {
		return e
	}
	if int(m.a%4) != (m.op-10)/2 { // the tag
		return api.ErrKind
	}
	i := m.a >> 2 % 65536
	switch m.op {
	case 12:
		s := &m.x.Locals.Slots[i]
		s.Ref, s.Live = 0, false
	case 14:
		y := &m.x.Globals.Entries[i]
		y.Ref, y.Live = 0, false
	case 16:
		y := &m.x.Weaks.Entries[i]
		y.Ref, y.Live = 0, false
	}
	return api.OK
}

func (m *model) push() api.Errno {
	l := &m.x.Locals
	switch {
	case m.a > 64:
		return api.ErrArg
	case len(l.Scopes) == 0:
		return api.ErrScope
	case len(l.Scopes) == 64:
		return api.ErrDepth
	}
	l.Scopes = append(l.Scopes, api.Scope{From: len(l.Slots), Cap: int(m.a)})
	return api.OK
}

func (m *model) pop() (uint64, api.Errno) {
	ref, e := m.resolve(m.a)
	if e != api.OK {
		return 0, e
	}
	l := &m.x.Locals
	n := len(l.Scopes)
	if n == 0 || l.Scopes[n-1].Base {
		return 0, api.ErrScope
	}
	l.Slots, l.Scopes = l.Slots[:l.Scopes[n-1].From], l.Scopes[:n-1]
	return m.local(ref)
}

// pinned returns the index of the pin of an object, or that behind the last one.
func (m *model) pinned(ref uint64) int {
	for i, p := range m.x.Pins {
		if p.Ref == ref {
			return i
		}
	}
	return len(m.x.Pins)
}

// page returns the page on which an object begins.
func (m *model) page(ref uint64) *api.Page {
	return &m.x.Heap.Pages[(ref-4096)/uint64(m.x.Heap.Conf.PageWords)]
}

func (m *model) pin(ref uint64) (uint64, api.Errno) {
	i := m.pinned(ref)
	if i == len(m.x.Pins) {
		if i == 64 || m.crowded(ref) {
			return 0, api.ErrFull
		}
		m.x.Pins = append(m.x.Pins, api.Pin{Ref: ref})
	}
	if m.x.Pins[i].Count == 1000 {
		return 0, api.ErrFull
	}
	m.x.Pins[i].Count++
	m.page(ref).Pins++
	return ref + 1, api.OK
}

func (m *model) crowded(ref uint64) bool {
	p, n := m.page(ref), 0
	for _, q := range m.x.Heap.Pages {
		if q.Kind == api.SmallPage && q.Pins > 0 {
			n++
		}
	}
	return p.Kind == api.SmallPage && p.Pins == 0 && n >= len(m.x.Heap.Pages)/4
}

func (m *model) unpin(ref uint64) api.Errno {
	i := m.pinned(ref)
	if i == len(m.x.Pins) {
		return api.ErrUnpinned
	}
	m.page(ref).Pins--
	m.x.Pins[i].Count--
	if m.x.Pins[i].Count == 0 {
		m.x.Pins = append(m.x.Pins[:i], m.x.Pins[i+1:]...)
	}
	return api.OK
}
