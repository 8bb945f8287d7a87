package boundary

import (
	"math"

	"semispace/alloc"
	"semispace/api"
	"semispace/env"
	"semispace/header"
	"semispace/object"
	"semispace/pin"
	"semispace/scope"
)

func (k *call) newRecord() (uint64, api.Errno) { return k.create(api.Record, k.b) }
func (k *call) newRefs() (uint64, api.Errno)   { return k.create(api.Refs, 0) }
func (k *call) newWords() (uint64, api.Errno)  { return k.create(api.Words, 0) }

// create makes an object of this kind with a fields, and a handle of it.
func (k *call) create(kind int, pointers uint64) (uint64, api.Errno) {
	if len(k.x.Pins) > 0 {
		return 0, api.ErrCritical
	}
	// In a header, numbers that are too great would become other ones.
	if k.a > math.MaxInt32 || pointers > math.MaxUint32 {
		return 0, api.ErrArg
	}
	hd := api.Header{Kind: kind, Length: int(k.a), Map: uint32(pointers)}
	if !alloc.Asks(k.x.Heap.Conf, hd) {
		return 0, api.ErrArg
	}
	// Any object shows whether there can be a handle of the new one.
	if _, _, _, e := scope.New(k.x.Locals, api.Base); e != api.OK {
		return 0, e
	}
	x, ref, e := env.Alloc(k.x, hd)
	if e != api.OK {
		return 0, e
	}
	k.x = x
	return k.local(ref)
}

// described returns the object of a and its header.
func (k *call) described() (uint64, api.Header, api.Errno) {
	ref, e := k.object()
	if e != api.OK {
		return 0, api.Header{}, e
	}
	hd, e := object.Get(k.x.Heap, ref)
	return ref, hd, e
}

func (k *call) length() (uint64, api.Errno) {
	_, hd, e := k.described()
	return uint64(hd.Length), e
}

func (k *call) kind() (uint64, api.Errno) {
	_, hd, e := k.described()
	return uint64(hd.Kind), e
}

// field returns the object of a and the number of its field b, which must be a
// pointer or must not be one.
func (k *call) field(pointer bool) (ref uint64, i int, e api.Errno) {
	ref, hd, e := k.described()
	switch {
	case e != api.OK:
		return 0, 0, e
	case k.b >= uint64(hd.Length):
		return 0, 0, api.ErrRange
	case header.Pointer(hd, int(k.b)) != pointer:
		return 0, 0, api.ErrKind
	}
	return ref, int(k.b), api.OK
}

// get returns field b of the object of a.
func (k *call) get(pointer bool) (uint64, api.Errno) {
	ref, i, e := k.field(pointer)
	if e != api.OK {
		return 0, e
	}
	return object.Field(k.x.Heap, ref, i)
}

func (k *call) getWord() (uint64, api.Errno) { return k.get(false) }

func (k *call) getRef() (uint64, api.Errno) {
	ref, e := k.get(true)
	if e != api.OK {
		return 0, e
	}
	return k.local(ref)
}

func (k *call) setWord() (uint64, api.Errno) {
	ref, i, e := k.field(false)
	if e != api.OK {
		return 0, e
	}
	k.x.Heap, e = object.SetField(k.x.Heap, ref, i, k.c)
	return 0, e
}

func (k *call) setRef() (uint64, api.Errno) {
	ref, i, e := k.field(true)
	if e != api.OK {
		return 0, e
	}
	v, e := k.resolve(k.c)
	if e != api.OK {
		return 0, e
	}
	k.x.Heap, e = object.SetField(k.x.Heap, ref, i, v)
	return 0, e
}

func (k *call) same() (uint64, api.Errno) {
	ref, e := k.resolve(k.a)
	if e != api.OK {
		return 0, e
	}
	other, e := k.resolve(k.b)
	if e != api.OK || ref != other {
		return 0, e
	}
	return 1, api.OK
}

func (k *call) getCritical() (uint64, api.Errno) {
	ref, e := k.object()
	if e != api.OK {
		return 0, e
	}
	h, pins, addr, e := pin.Get(k.x.Heap, k.x.Pins, ref)
	k.x.Heap, k.x.Pins = h, pins
	return addr, e
}

func (k *call) release() (uint64, api.Errno) {
	ref, e := k.object()
	if e != api.OK {
		return 0, e
	}
	k.x.Heap, k.x.Pins, e = pin.Release(k.x.Heap, k.x.Pins, ref)
	return 0, e
}
