package shadow_test

import (
	"semispace/api"
	"semispace/envtest"
	"semispace/rules"
	"semispace/worldtest"
)

// model does a call as 21.2 and the table of 19.1 say, on the things, slots,
// entries and marks of a world. All numbers are written out.
type model struct {
	request
	w rules.World
}

// expected is Call. What error a call has is the business of package rules.
func expected(w rules.World, r request) (rules.World, uint64, api.Errno) {
	if e := rules.Verdict(w, r.op, r.a, r.b, r.c, r.fact.Failed); e != api.OK {
		return rules.World{}, 0, e
	}
	m := model{r, worldtest.Copied(w)}
	v := m.do()
	return m.w, v, api.OK
}

func (m *model) do() uint64 {
	switch m.op {
	case 1, 2, 3:
		return m.create()
	case 10:
		if m.find(m.a) == m.find(m.b) {
			return 1
		}
		return 0
	case 11:
		return m.local(m.find(m.a))
	case 12, 14, 16:
		return m.remove()
	case 13:
		return m.add(2, &m.w.Globals)
	case 15:
		return m.add(3, &m.w.Weaks)
	case 17:
		m.w.Locals.Scopes = append(m.w.Locals.Scopes, api.Scope{From: len(m.w.Locals.Slots), Cap: int(m.a)})
		return 0
	case 18:
		return m.pop()
	case 19:
		return m.pin()
	case 20:
		return m.unpin()
	}
	return m.read(&m.w.Things[m.find(m.a)-1])
}

// read is do for the calls that read or change a thing.
func (m *model) read(y *rules.Thing) uint64 {
	switch m.op {
	case 4:
		return uint64(len(y.Fields))
	case 5:
		return uint64(y.Header.Kind)
	case 6:
		return y.Fields[m.b]
	case 7:
		y.Fields[m.b] = m.c
	case 8:
		return m.local(y.Fields[m.b])
	case 9:
		y.Fields[m.b] = m.find(m.c)
	}
	return 0
}

// find returns what a word refers to that is 0 or the word of a usable handle.
func (m *model) find(v uint64) uint64 {
	i := v >> 2 % 65536
	switch v % 4 {
	case 1:
		return m.w.Locals.Slots[i].Ref
	case 2:
		return m.w.Globals.Entries[i].Ref
	case 3:
		return m.w.Weaks.Entries[i].Ref
	}
	return 0
}

func (m *model) create() uint64 {
	if m.fact.Collected {
		m.w.Weaks.Entries = clearedIn(m.w)
	}
	y := rules.Thing{Header: api.Header{Kind: m.op, Length: int(m.a)}, Fields: make([]uint64, m.a)}
	if m.op == 1 {
		y.Header.Map = uint32(m.b)
	}
	m.w.Things = append(m.w.Things, y)
	return m.local(uint64(len(m.w.Things)))
}

func (m *model) local(id uint64) uint64 {
	if id == 0 {
		return 0
	}
	l := &m.w.Locals
	i, stamp := len(l.Slots), len(l.Issued)+1
	l.Slots = append(l.Slots, api.Slot{Stamp: stamp, Ref: id, Live: true})
	l.Issued = append(l.Issued, i)
	return envtest.Word(1, i, stamp)
}

// add makes a handle of what a refers to in a table.
func (m *model) add(tag int, t *api.Table) uint64 {
	id := m.find(m.a)
	for i, y := range t.Entries {
		if !y.Live && y.Gen < envtest.MaxGen {
			t.Entries[i] = envtest.Live(y.Gen+1, id)
			return envtest.Word(tag, i, y.Gen+1)
		}
	}
	t.Entries = append(t.Entries, envtest.Live(1, id))
	return envtest.Word(tag, len(t.Entries)-1, 1)
}

func (m *model) remove() uint64 {
	i := m.a >> 2 % 65536
	if m.op == 12 {
		m.w.Locals.Slots[i] = api.Slot{Stamp: m.w.Locals.Slots[i].Stamp}
		return 0
	}
	l := m.w.Globals.Entries
	if m.op == 16 {
		l = m.w.Weaks.Entries
	}
	l[i] = envtest.Dead(l[i].Gen)
	return 0
}

func (m *model) pop() uint64 {
	id, l := m.find(m.a), &m.w.Locals
	last := len(l.Scopes) - 1
	l.Slots, l.Scopes = l.Slots[:l.Scopes[last].From], l.Scopes[:last]
	return m.local(id)
}

func (m *model) pin() uint64 {
	id := m.find(m.a)
	for k, y := range m.w.Marks {
		if y.Id == id {
			m.w.Marks[k].Count++
			return y.Base
		}
	}
	m.w.Marks = append(m.w.Marks, rules.Mark{Id: id, Count: 1, Base: m.fact.Base})
	return m.fact.Base
}

func (m *model) unpin() uint64 {
	var l []rules.Mark
	for _, y := range m.w.Marks {
		if y.Id == m.find(m.a) {
			y.Count--
		}
		if y.Count > 0 {
			l = append(l, y)
		}
	}
	m.w.Marks = l
	return 0
}

// reachedIn is Reached for a world that is valid: the least set that has what
// the roots refer to, and what the pointer fields of its things refer to.
func reachedIn(w rules.World) []bool {
	in := make([]bool, len(w.Things)+1) // by identity
	for _, id := range w.Roots {
		in[id] = true
	}
	for _, s := range w.Locals.Slots {
		in[s.Ref] = true
	}
	for _, y := range w.Globals.Entries {
		in[y.Ref] = true
	}
	for _, m := range w.Marks {
		in[m.Id] = true
	}
	for changed := true; changed; {
		changed = false
		for k, y := range w.Things {
			for _, i := range worldtest.Pointers(y) {
				if in[k+1] && !in[y.Fields[i]] {
					in[y.Fields[i]], changed = true, true
				}
			}
		}
	}
	return in[1:]
}

// clearedIn returns the weak handles of a world that is valid, after a
// collection.
func clearedIn(w rules.World) []api.Entry {
	in, l := append([]bool{true}, reachedIn(w)...), []api.Entry{}
	for _, y := range w.Weaks.Entries {
		if !in[y.Ref] {
			y.Ref = 0
		}
		l = append(l, y)
	}
	return l
}
