package slots_test

import (
	"slices"
	"testing"

	"semispace/api"
	"semispace/heaptest"
	"semispace/slots"
)

// maxGen is the last generation.
const maxGen = 1<<32 - 1

// handle is a handle of a model.
type handle struct {
	ref     uint64
	deleted bool
}

// entry is an entry of a model, with the handles that have used it: first some
// that are deleted and of which nothing else is known, and then these.
type entry struct {
	before  int
	handles []handle
}

// gen is the generation of the last handle of an entry.
func (x entry) gen() int { return x.before + len(x.handles) }

// live reports whether the last handle of an entry can be used.
func (x entry) live() bool {
	return len(x.handles) > 0 && !x.handles[len(x.handles)-1].deleted
}

// model is the history of a table of handles.
type model []entry

// table returns what a model looks like.
func (m model) table() api.Table {
	var l []api.Entry
	for _, x := range m {
		if x.live() {
			l = append(l, live(x.gen(), x.handles[len(x.handles)-1].ref))
		} else {
			l = append(l, dead(x.gen()))
		}
	}
	return tableOf(l...)
}

// of returns the handle with these numbers, or the error of looking for it.
func (m model) of(index, gen int) (*handle, api.Errno) {
	if index < 0 || index >= len(m) || gen < 1 || gen > m[index].gen() {
		return nil, api.ErrForged
	}
	x := m[index]
	if gen <= x.before || x.handles[gen-x.before-1].deleted {
		return nil, api.ErrDeleted
	}
	return &x.handles[gen-x.before-1], api.OK
}

func (m *model) new(ref uint64) (index, gen int, e api.Errno) {
	index = slices.IndexFunc(*m, func(x entry) bool { return !x.live() && x.gen() < maxGen })
	if index < 0 {
		index = len(*m)
		if index >= 64 {
			return 0, 0, api.ErrFull
		}
		*m = append(*m, entry{})
	}
	x := &(*m)[index]
	x.handles = append(x.handles, handle{ref: ref})
	return index, x.gen(), api.OK
}

func (m model) get(index, gen int) (uint64, api.Errno) {
	h, e := m.of(index, gen)
	if e != api.OK {
		return 0, e
	}
	return h.ref, api.OK
}

func (m model) set(index, gen int, ref uint64) api.Errno {
	h, e := m.of(index, gen)
	if e == api.OK {
		h.ref = ref
	}
	return e
}

func (m model) delete(index, gen int) api.Errno {
	h, e := m.of(index, gen)
	if e == api.OK {
		h.deleted = true
	}
	return e
}

// all returns the handles that can be used, in the order of their entries.
func (m model) all() []*handle {
	var l []*handle
	for index := range m {
		if h, e := m.of(index, m[index].gen()); e == api.OK {
			l = append(l, h)
		}
	}
	return l
}

func (m model) refs() []uint64 {
	var l []uint64
	for _, h := range m.all() {
		l = append(l, h.ref)
	}
	return l
}

func (m model) move(refs []uint64) api.Errno {
	if len(refs) != len(m.all()) {
		return api.ErrArg
	}
	for k, h := range m.all() {
		h.ref = refs[k]
	}
	return api.OK
}

// live is an entry with a handle that can be used, dead one without, and wrong
// one that is not valid.
func live(gen int, ref uint64) api.Entry  { return api.Entry{Gen: gen, Ref: ref, Live: true} }
func dead(gen int) api.Entry              { return api.Entry{Gen: gen} }
func wrong(gen int, ref uint64) api.Entry { return api.Entry{Gen: gen, Ref: ref} }

// tableOf returns the table with these entries.
func tableOf(entries ...api.Entry) api.Table { return api.Table{Entries: entries} }

// same reports whether two tables are equal.
func same(a, b api.Table) bool { return slices.Equal(a.Entries, b.Entries) }

// copied returns a copy of a table.
func copied(a api.Table) api.Table { return tableOf(slices.Clone(a.Entries)...) }

// guarded returns a copy of a table with marks behind its entries, and a
// function that reports whether all of this is still as it was.
func guarded(a api.Table) (api.Table, func() bool) {
	roomy := heaptest.Roomy(a.Entries, api.Entry{Gen: 77})
	before := heaptest.Whole(roomy)
	return api.Table{Entries: roomy}, func() bool { return slices.Equal(heaptest.Whole(roomy), before) }
}

// call is a call that returns a table.
type call func(a api.Table) (api.Table, api.Errno)

// after does a call. It checks that the argument stays as it is, whatever is
// done to the result, and that the result is valid or, together with an error,
// zero.
func after(t *testing.T, a api.Table, do call) (api.Table, api.Errno) {
	t.Helper()
	given, unchanged := guarded(a)
	result, e := do(given)
	out := copied(result)
	for i := range result.Entries[:cap(result.Entries)] {
		result.Entries[:cap(result.Entries)][i] = api.Entry{Gen: 88}
	}
	if !unchanged() {
		t.Fatalf("the argument has changed: %v", given)
	}
	if e == api.OK && !slots.Valid(out) {
		t.Fatalf("the result is not valid: %v", out)
	}
	if e != api.OK && !same(out, api.Table{}) {
		t.Fatalf("with error %d, the result is %v", e, out)
	}
	return out, e
}

// The calls that return tables.

func setting(index, gen int, ref uint64) call {
	return func(a api.Table) (api.Table, api.Errno) { return slots.Set(a, index, gen, ref) }
}

func deleting(index, gen int) call {
	return func(a api.Table) (api.Table, api.Errno) { return slots.Delete(a, index, gen) }
}

func moving(refs ...uint64) call {
	return func(a api.Table) (api.Table, api.Errno) { return slots.Move(a, refs) }
}

// making also keeps the numbers of the new handle.
func making(ref uint64, index, gen *int) call {
	return func(a api.Table) (out api.Table, e api.Errno) {
		out, *index, *gen, e = slots.New(a, ref)
		return out, e
	}
}

// handles makes handles, at least one, without keeping their numbers.
func handles(refs ...uint64) call {
	return func(a api.Table) (api.Table, api.Errno) {
		for _, ref := range refs {
			var e api.Errno
			if a, _, _, e = slots.New(a, ref); e != api.OK {
				return api.Table{}, e
			}
		}
		return a, api.OK
	}
}

// program returns a table after all these calls, none of which has an error.
func program(t *testing.T, a api.Table, calls ...call) api.Table {
	t.Helper()
	for k, do := range calls {
		var e api.Errno
		if a, e = after(t, a, do); e != api.OK {
			t.Fatalf("call %d: error %d", k, e)
		}
	}
	return a
}

// got is Get. It checks that the argument stays as it is.
func got(t *testing.T, a api.Table, index, gen int) (uint64, api.Errno) {
	t.Helper()
	given, unchanged := guarded(a)
	ref, e := slots.Get(given, index, gen)
	if !unchanged() {
		t.Fatalf("the argument has changed: %v", given)
	}
	return ref, e
}

// refs is Refs. It checks that the argument stays as it is, whatever is done to
// the result.
func refs(t *testing.T, a api.Table) []uint64 {
	t.Helper()
	given, unchanged := guarded(a)
	result := slots.Refs(given)
	list := slices.Clone(result)
	for k := range result[:cap(result)] {
		result[:cap(result)][k] = 88
	}
	if !unchanged() {
		t.Fatalf("the argument has changed: %v", given)
	}
	return list
}
