package shadow_test

import (
	"fmt"
	"slices"
	"testing"

	"semispace/api"
	"semispace/envtest"
	"semispace/rules"
	"semispace/shadow"
	"semispace/worldtest"
)

const huge = 1<<64 - 1

// request is a call with its arguments and its fact.
type request struct {
	op      int
	a, b, c uint64
	fact    shadow.Fact
}

// show is a short form for messages.
func show(w rules.World) string { return fmt.Sprintf("%.1500v", fmt.Sprint(w)) }

// act is what changes a world and has a result. A number that it returns is 0 if
// it has no other.
type act func(w rules.World) (rules.World, uint64, api.Errno)

// after does something to a world. It checks that the argument stays as it is,
// whatever is done to the result, and that the result is valid or, together with
// an error, that all of it is zero.
func after(t *testing.T, w rules.World, do act) (rules.World, uint64, api.Errno) {
	t.Helper()
	given, unchanged := worldtest.Guarded(w)
	returned, v, e := do(given)
	out := worldtest.Copied(returned)
	if !worldtest.Overwrite(returned) {
		t.Fatalf("slices of the result share memory: %s", show(out))
	}
	if !unchanged() {
		t.Fatalf("the argument has changed: %s", show(w))
	}
	if e == api.OK && !rules.Valid(out) {
		t.Fatalf("the result is not valid: %s", show(out))
	}
	if e != api.OK && (!worldtest.Same(out, rules.World{}) || v != 0) {
		t.Fatalf("with error %d, the result is %s and %d", e, show(out), v)
	}
	return out, v, e
}

// collecting is a collection.
func collecting(w rules.World) (rules.World, uint64, api.Errno) {
	out, e := shadow.Collect(w)
	return out, 0, e
}

// storing writes a field.
func storing(addr, v uint64) act {
	return func(w rules.World) (rules.World, uint64, api.Errno) {
		out, e := shadow.Store(w, addr, v)
		return out, 0, e
	}
}

// calling does a call.
func calling(r request) act {
	return func(w rules.World) (rules.World, uint64, api.Errno) {
		return shadow.Call(w, r.op, r.a, r.b, r.c, r.fact)
	}
}

// calls does a call and checks all that it returns.
func calls(t *testing.T, w rules.World, r request) (rules.World, uint64, api.Errno) {
	t.Helper()
	out, v, e := after(t, w, calling(r))
	want, wantResult, wantError := expected(w, r)
	if e != wantError || v != wantResult || !worldtest.Same(out, want) {
		t.Fatalf("%s\nbecomes, by %v, %s, %d, error %d, want\n%s, %d, error %d", show(w), r, show(out), v, e, show(want), wantResult, wantError)
	}
	return out, v, e
}

// becomes checks what a call that has no error does, and returns the world after
// it.
func becomes(t *testing.T, w rules.World, r request, want uint64, change func(w *rules.World)) rules.World {
	t.Helper()
	out, v, e := calls(t, w, r)
	if changed := worldtest.Changed(w, change); e != api.OK || v != want || !worldtest.Same(out, changed) {
		t.Fatalf("%v: %s\nbecomes %s, %d, error %d, want\n%s, %d", r, show(w), show(out), v, e, show(changed), want)
	}
	return out
}

// nothing changes nothing.
func nothing(*rules.World) {}

// refuses checks the error of a call.
func refuses(t *testing.T, w rules.World, r request, want api.Errno) {
	t.Helper()
	if _, _, e := calls(t, w, r); e != want {
		t.Errorf("%v: error %d, want %d, with %s", r, e, want, show(w))
	}
}

// reached is shadow.Reached of a world that must stay as it is.
func reached(t *testing.T, w rules.World) []bool {
	t.Helper()
	given, unchanged := worldtest.Guarded(w)
	l := shadow.Reached(given)
	if !unchanged() {
		t.Fatalf("the world has been changed: %s", show(w))
	}
	return l
}

// load is shadow.Load of a world that must stay as it is.
func load(t *testing.T, w rules.World, addr uint64) (uint64, api.Errno) {
	t.Helper()
	given, unchanged := worldtest.Guarded(w)
	v, e := shadow.Load(given, addr)
	if !unchanged() {
		t.Fatalf("the world has been changed: %s", show(w))
	}
	return v, e
}

// often checks that all these things have happened often.
func often(t *testing.T, count envtest.Counts, n int, things ...string) {
	t.Helper()
	if l := count.Seldom(n, things...); len(l) > 0 {
		t.Errorf("hardly any: %v, of %v", l, count)
	}
}

// local is the first local handle of a thing in worldtest.Ordinary.
func local(id uint64) uint64 {
	l := worldtest.Ordinary().Locals.Slots
	i := slices.IndexFunc(l, func(s api.Slot) bool { return s.Live && s.Ref == id })
	return envtest.Word(api.Local, i, l[i].Stamp)
}

// global is the global handle of a thing there.
func global(id uint64) uint64 { return entry(api.Global, worldtest.Ordinary().Globals, id) }

// weak is the first weak handle of a thing there, or for 0 one that is cleared.
func weak(id uint64) uint64 { return entry(api.Weak, worldtest.Ordinary().Weaks, id) }

func entry(tag int, t api.Table, id uint64) uint64 {
	i := slices.IndexFunc(t.Entries, func(y api.Entry) bool { return y.Live && y.Ref == id })
	return envtest.Word(tag, i, t.Entries[i].Gen)
}

// roomy is worldtest.Ordinary with room for more handles in its last scope.
func roomy() rules.World {
	return worldtest.Changed(worldtest.Ordinary(), func(w *rules.World) { w.Locals.Scopes[2].Cap = 64 })
}

// unmarked is roomy without marks.
func unmarked() rules.World {
	return worldtest.Changed(roomy(), func(w *rules.World) { w.Marks = nil })
}

// outside is worldtest.Ordinary without local handles and scopes.
func outside() rules.World {
	return worldtest.Changed(worldtest.Ordinary(), func(w *rules.World) { w.Locals.Slots, w.Locals.Scopes = nil, nil })
}
