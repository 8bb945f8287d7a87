package shadow

import (
	"slices"

	"semispace/api"
	"semispace/boundary"
	"semispace/handle"
	"semispace/rules"
	"semispace/scope"
	"semispace/slots"
)

// Call performs a call.
func Call(w rules.World, op int, a, b, c uint64, f Fact) (rules.World, uint64, api.Errno) {
	if e := rules.Verdict(w, op, a, b, c, f.Failed); e != api.OK {
		return rules.World{}, 0, e
	}
	k := call{w: rules.Copy(w), op: op, a: a, b: b, c: c, fact: f}
	result := k.do()
	return k.w, result, api.OK
}

// call is a call with its arguments, which changes its world. As the verdict on
// it is that it has no error, nothing that it does can fail.
type call struct {
	w       rules.World
	op      int
	a, b, c uint64
	fact    Fact
}

// do does what the call asks for and returns its result.
func (k *call) do() uint64 {
	switch k.op {
	case boundary.NewRecord:
		return k.create(api.Header{Kind: api.Record, Length: int(k.a), Map: uint32(k.b)})
	case boundary.NewRefs:
		return k.create(api.Header{Kind: api.Refs, Length: int(k.a)})
	case boundary.NewWords:
		return k.create(api.Header{Kind: api.Words, Length: int(k.a)})
	case boundary.PushScope:
		k.w.Locals, _ = scope.Push(k.w.Locals, int(k.a))
		return 0
	}
	return k.doWith(k.resolve(k.a))
}

// doWith is do for the calls that begin with what a refers to.
func (k *call) doWith(id uint64) uint64 {
	switch k.op {
	case boundary.Same:
		if k.resolve(k.b) == id {
			return 1
		}
	case boundary.NewLocal:
		return k.local(id)
	case boundary.NewGlobal:
		return add(api.Global, &k.w.Globals, id)
	case boundary.NewWeak:
		return add(api.Weak, &k.w.Weaks, id)
	case boundary.DeleteLocal, boundary.DeleteGlobal, boundary.DeleteWeak:
		k.remove()
	case boundary.PopScope:
		k.w.Locals, _ = scope.Pop(k.w.Locals)
		return k.local(id)
	case boundary.GetCritical:
		return k.pin(id)
	case boundary.Release:
		k.unpin(id)
	default:
		return k.doThing(k.w.Things[id-1])
	}
	return 0
}

// doThing is do for the calls that read or change a thing.
func (k *call) doThing(y rules.Thing) uint64 {
	switch k.op {
	case boundary.Length:
		return uint64(y.Header.Length)
	case boundary.Kind:
		return uint64(y.Header.Kind)
	case boundary.GetWord:
		return y.Fields[k.b]
	case boundary.SetWord:
		y.Fields[k.b] = k.c
	case boundary.GetRef:
		return k.local(y.Fields[k.b])
	case boundary.SetRef:
		y.Fields[k.b] = k.resolve(k.c)
	}
	return 0
}

// resolve returns what a word refers to.
func (k *call) resolve(v uint64) uint64 {
	id, _ := rules.Resolve(k.w, v)
	return id
}

// create makes a thing, and a handle of it.
func (k *call) create(hd api.Header) uint64 {
	if k.fact.Collected { // before there was the new one
		k.w.Weaks = cleared(k.w)
	}
	k.w.Things = append(k.w.Things, rules.Thing{Header: hd, Fields: make([]uint64, hd.Length)})
	return k.local(uint64(len(k.w.Things)))
}

// local makes a new local handle of a thing, or none for null.
func (k *call) local(id uint64) uint64 {
	if id == 0 {
		return 0
	}
	l, i, stamp, _ := scope.New(k.w.Locals, id)
	k.w.Locals = l
	return word(api.Local, i, stamp)
}

// add makes a new handle of a thing in the table of this tag.
func add(tag int, t *api.Table, id uint64) uint64 {
	next, i, gen, _ := slots.New(*t, id)
	*t = next
	return word(tag, i, gen)
}

// word returns the word of a handle.
func word(tag, index, stamp int) uint64 {
	v, _ := handle.Encode(api.Handle{Tag: tag, Index: index, Stamp: stamp})
	return v
}

// remove deletes the handle a.
func (k *call) remove() {
	switch h, _ := handle.Decode(k.a); h.Tag {
	case api.Local:
		k.w.Locals, _ = scope.Delete(k.w.Locals, h.Index, h.Stamp)
	case api.Global:
		k.w.Globals, _ = slots.Delete(k.w.Globals, h.Index, h.Stamp)
	case api.Weak:
		k.w.Weaks, _ = slots.Delete(k.w.Weaks, h.Index, h.Stamp)
	}
}

// mark returns the index of the mark of a thing, or -1.
func (k *call) mark(id uint64) int {
	return slices.IndexFunc(k.w.Marks, func(m rules.Mark) bool { return m.Id == id })
}

// pin pins a thing once more and returns the address of its field 0.
func (k *call) pin(id uint64) uint64 {
	i := k.mark(id)
	if i < 0 {
		i = len(k.w.Marks)
		k.w.Marks = append(k.w.Marks, rules.Mark{Id: id, Base: k.fact.Base})
	}
	k.w.Marks[i].Count++
	return k.w.Marks[i].Base
}

// unpin takes one pin of a thing back.
func (k *call) unpin(id uint64) {
	i := k.mark(id)
	k.w.Marks[i].Count--
	if k.w.Marks[i].Count == 0 {
		k.w.Marks = slices.Delete(k.w.Marks, i, i+1)
	}
}
