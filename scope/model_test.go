package scope_test

import (
	"slices"
	"testing"

	"semispace/api"
	"semispace/heaptest"
	"semispace/scope"
)

// handle is a local handle of a model.
type handle struct {
	index           int
	ref             uint64
	deleted, closed bool
}

// opened is a scope of a model, with the stamps of the handles in it.
type opened struct {
	base   bool
	room   int
	stamps []int
}

// model is the history of local handles.
type model struct {
	handles []handle // that of stamp 1 first
	scopes  []opened
}

// of returns the handle with a stamp.
func (m *model) of(stamp int) *handle { return &m.handles[stamp-1] }

// slots returns the stamps of all handles in scopes that are open.
func (m *model) slots() []int {
	var l []int
	for _, s := range m.scopes {
		l = append(l, s.stamps...)
	}
	return l
}

// live returns those of these stamps whose handles are not deleted.
func (m *model) live(stamps []int) []int {
	return slices.DeleteFunc(slices.Clone(stamps), func(stamp int) bool { return m.of(stamp).deleted })
}

// locals returns what a model looks like.
func (m *model) locals() api.Locals {
	var l api.Locals
	for _, s := range m.scopes {
		l.Scopes = append(l.Scopes, api.Scope{From: len(l.Slots), Cap: s.room, Base: s.base})
		for _, stamp := range s.stamps {
			l.Slots = append(l.Slots, api.Slot{Stamp: stamp})
			if x := m.of(stamp); !x.deleted {
				l.Slots[x.index].Ref, l.Slots[x.index].Live = x.ref, true
			}
		}
	}
	for _, x := range m.handles {
		l.Issued = append(l.Issued, x.index)
	}
	return l
}

func (m *model) enter(room int) api.Errno {
	if room < 0 || room > 64 {
		return api.ErrArg
	}
	if len(m.scopes) >= 64 {
		return api.ErrDepth
	}
	m.scopes = append(m.scopes, opened{base: true, room: room})
	return api.OK
}

func (m *model) push(room int) api.Errno {
	if room >= 0 && room <= 64 && len(m.scopes) == 0 {
		return api.ErrScope
	}
	e := m.enter(room)
	if e == api.OK {
		m.scopes[len(m.scopes)-1].base = false
	}
	return e
}

// closeLast closes the last scope and reports whether it was that of a frame.
func (m *model) closeLast() bool {
	last := m.scopes[len(m.scopes)-1]
	m.scopes = m.scopes[:len(m.scopes)-1]
	for _, stamp := range last.stamps {
		m.of(stamp).closed = true
	}
	return last.base
}

func (m *model) pop() api.Errno {
	if len(m.scopes) == 0 || m.scopes[len(m.scopes)-1].base {
		return api.ErrScope
	}
	m.closeLast()
	return api.OK
}

func (m *model) leave() api.Errno {
	if len(m.scopes) == 0 {
		return api.ErrScope
	}
	for !m.closeLast() {
	}
	return api.OK
}

func (m *model) new(ref uint64) (index, stamp int, e api.Errno) {
	if ref == 0 {
		return 0, 0, api.ErrArg
	}
	if len(m.scopes) == 0 {
		return 0, 0, api.ErrScope
	}
	last := &m.scopes[len(m.scopes)-1]
	if len(m.live(last.stamps)) >= last.room {
		return 0, 0, api.ErrCapacity
	}
	if len(m.handles) >= 4096 {
		return 0, 0, api.ErrFull
	}
	index, stamp = len(m.slots()), len(m.handles)+1
	m.handles = append(m.handles, handle{index: index, ref: ref})
	last.stamps = append(last.stamps, stamp)
	return index, stamp, api.OK
}

func (m *model) get(index, stamp int) (uint64, api.Errno) {
	if stamp < 1 || stamp > len(m.handles) || m.of(stamp).index != index {
		return 0, api.ErrForged
	}
	switch x := m.of(stamp); {
	case x.closed:
		return 0, api.ErrStale
	case x.deleted:
		return 0, api.ErrDeleted
	default:
		return x.ref, api.OK
	}
}

func (m *model) delete(index, stamp int) api.Errno {
	_, e := m.get(index, stamp)
	if e == api.OK {
		m.of(stamp).deleted = true
	}
	return e
}

func (m *model) refs() []uint64 {
	var l []uint64
	for _, stamp := range m.live(m.slots()) {
		l = append(l, m.of(stamp).ref)
	}
	return l
}

func (m *model) move(refs []uint64) api.Errno {
	live := m.live(m.slots())
	if len(live) != len(refs) || slices.Contains(refs, 0) {
		return api.ErrArg
	}
	for k, stamp := range live {
		m.of(stamp).ref = refs[k]
	}
	return api.OK
}

// same reports whether two locals are equal.
func same(a, b api.Locals) bool {
	return slices.Equal(a.Slots, b.Slots) && slices.Equal(a.Scopes, b.Scopes) && slices.Equal(a.Issued, b.Issued)
}

// copied returns a copy of locals.
func copied(l api.Locals) api.Locals {
	return api.Locals{Slots: slices.Clone(l.Slots), Scopes: slices.Clone(l.Scopes), Issued: slices.Clone(l.Issued)}
}

// whole is copied with what is behind the slices.
func whole(l api.Locals) api.Locals {
	return api.Locals{Slots: heaptest.Whole(l.Slots), Scopes: heaptest.Whole(l.Scopes), Issued: heaptest.Whole(l.Issued)}
}

// guarded returns a copy of locals with marks behind its slices, and a function
// that reports whether all of this is still as it was.
func guarded(l api.Locals) (api.Locals, func() bool) {
	roomy := api.Locals{
		Slots:  heaptest.Roomy(l.Slots, api.Slot{Stamp: 77}),
		Scopes: heaptest.Roomy(l.Scopes, api.Scope{From: 77}),
		Issued: heaptest.Roomy(l.Issued, 77),
	}
	before := whole(roomy)
	return roomy, func() bool { return same(whole(roomy), before) }
}

// overwrite writes into the slices of locals, and behind them.
func overwrite(l api.Locals) {
	for i := range l.Slots[:cap(l.Slots)] {
		l.Slots[:cap(l.Slots)][i] = api.Slot{Stamp: 88}
	}
	for i := range l.Scopes[:cap(l.Scopes)] {
		l.Scopes[:cap(l.Scopes)][i] = api.Scope{From: 88}
	}
	for i := range l.Issued[:cap(l.Issued)] {
		l.Issued[:cap(l.Issued)][i] = 88
	}
}

// call is a call that returns locals.
type call func(l api.Locals) (api.Locals, api.Errno)

// after does a call. It checks that the argument stays as it is, whatever is
// done to the result, and that the result is valid or, together with an error,
// zero.
func after(t *testing.T, l api.Locals, do call) (api.Locals, api.Errno) {
	t.Helper()
	given, unchanged := guarded(l)
	result, e := do(given)
	got := copied(result)
	overwrite(result)
	if !unchanged() {
		t.Fatalf("the argument has changed: %v", given)
	}
	if e == api.OK && !scope.Valid(got) {
		t.Fatalf("the result is not valid: %v", got)
	}
	if e != api.OK && !same(got, api.Locals{}) {
		t.Fatalf("with error %d, the result is %v", e, got)
	}
	return got, e
}

// The calls that return locals.

func entering(room int) call {
	return func(l api.Locals) (api.Locals, api.Errno) { return scope.Enter(l, room) }
}

func pushing(room int) call {
	return func(l api.Locals) (api.Locals, api.Errno) { return scope.Push(l, room) }
}

func deleting(index, stamp int) call {
	return func(l api.Locals) (api.Locals, api.Errno) { return scope.Delete(l, index, stamp) }
}

func moving(refs ...uint64) call {
	return func(l api.Locals) (api.Locals, api.Errno) { return scope.Move(l, refs) }
}

// making also keeps the numbers of the new handle.
func making(ref uint64, index, stamp *int) call {
	return func(l api.Locals) (out api.Locals, e api.Errno) {
		out, *index, *stamp, e = scope.New(l, ref)
		return out, e
	}
}

// made is New, with the checks of after.
func made(t *testing.T, l api.Locals, ref uint64) (out api.Locals, index, stamp int, e api.Errno) {
	t.Helper()
	out, e = after(t, l, making(ref, &index, &stamp))
	return out, index, stamp, e
}

// got is Get. It checks that the argument stays as it is.
func got(t *testing.T, l api.Locals, index, stamp int) (uint64, api.Errno) {
	t.Helper()
	given, unchanged := guarded(l)
	ref, e := scope.Get(given, index, stamp)
	if !unchanged() {
		t.Fatalf("the argument has changed: %v", given)
	}
	return ref, e
}

// refs is Refs. It checks that the argument stays as it is.
func refs(t *testing.T, l api.Locals) []uint64 {
	t.Helper()
	given, unchanged := guarded(l)
	list := scope.Refs(given)
	if !unchanged() {
		t.Fatalf("the argument has changed: %v", given)
	}
	return list
}

// must is after for a call that has no error.
func must(t *testing.T, l api.Locals, do call) api.Locals {
	t.Helper()
	out, e := after(t, l, do)
	if e != api.OK {
		t.Fatalf("error %d", e)
	}
	return out
}

// program returns the locals after all these calls, none of which has an error.
func program(t *testing.T, calls ...call) api.Locals {
	t.Helper()
	var l api.Locals
	for _, do := range calls {
		l = must(t, l, do)
	}
	return l
}

// handles makes a handle of each of these references.
func handles(refs ...uint64) call {
	return func(l api.Locals) (api.Locals, api.Errno) {
		l = copied(l) // without any references, the argument would be the result
		for _, ref := range refs {
			var e api.Errno
			if l, _, _, e = scope.New(l, ref); e != api.OK {
				return api.Locals{}, e
			}
		}
		return l, api.OK
	}
}
