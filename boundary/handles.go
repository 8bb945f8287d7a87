package boundary

import (
	"semispace/api"
	"semispace/handle"
	"semispace/scope"
	"semispace/slots"
)

func (k *call) newLocal() (uint64, api.Errno) {
	ref, e := k.resolve(k.a)
	if e != api.OK {
		return 0, e
	}
	return k.local(ref)
}

func (k *call) newGlobal() (uint64, api.Errno) { return k.add(api.Global, &k.x.Globals) }
func (k *call) newWeak() (uint64, api.Errno)   { return k.add(api.Weak, &k.x.Weaks) }

// add makes a handle of the object of a in the table of this tag.
func (k *call) add(tag int, t *api.Table) (uint64, api.Errno) {
	ref, e := k.object()
	if e != api.OK {
		return 0, e
	}
	next, i, gen, e := slots.New(*t, ref)
	if e != api.OK {
		return 0, e
	}
	*t = next
	return handle.Encode(api.Handle{Tag: tag, Index: i, Stamp: gen})
}

func (k *call) deleteLocal() (uint64, api.Errno) {
	h, e := k.usable(api.Local)
	if e != api.OK {
		return 0, e
	}
	k.x.Locals, e = scope.Delete(k.x.Locals, h.Index, h.Stamp)
	return 0, e
}

func (k *call) deleteGlobal() (uint64, api.Errno) { return k.remove(api.Global, &k.x.Globals) }
func (k *call) deleteWeak() (uint64, api.Errno)   { return k.remove(api.Weak, &k.x.Weaks) }

// remove deletes the handle a from the table of this tag.
func (k *call) remove(tag int, t *api.Table) (uint64, api.Errno) {
	h, e := k.usable(tag)
	if e != api.OK {
		return 0, e
	}
	*t, e = slots.Delete(*t, h.Index, h.Stamp)
	return 0, e
}

// usable returns the handle a, which must have this tag.
func (k *call) usable(tag int) (api.Handle, api.Errno) {
	h, e := handle.Decode(k.a)
	if e != api.OK {
		return api.Handle{}, e
	}
	if _, e := k.resolve(k.a); e != api.OK {
		return api.Handle{}, e
	}
	if h.Tag != tag {
		return api.Handle{}, api.ErrKind
	}
	return h, api.OK
}

func (k *call) pushScope() (uint64, api.Errno) {
	if k.a > api.MaxCap { // which may be too great for an int
		return 0, api.ErrArg
	}
	var e api.Errno
	k.x.Locals, e = scope.Push(k.x.Locals, int(k.a))
	return 0, e
}

func (k *call) popScope() (uint64, api.Errno) {
	ref, e := k.resolve(k.a) // before its scope is closed
	if e != api.OK {
		return 0, e
	}
	if k.x.Locals, e = scope.Pop(k.x.Locals); e != api.OK {
		return 0, e
	}
	return k.local(ref)
}
