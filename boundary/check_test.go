package boundary_test

import (
	"fmt"
	"testing"

	"semispace/alloc"
	"semispace/api"
	"semispace/boundary"
	"semispace/env"
	"semispace/envtest"
)

// request is a call with its arguments.
type request struct {
	op      int
	a, b, c uint64
}

// show is a short form for messages: a heap may have thousands of words.
func show(x api.Env) string {
	return fmt.Sprintf("roots %v, locals %.400v, globals %v, weaks %v, pins %v, pages %v, words %.160v",
		x.Roots, fmt.Sprint(x.Locals), x.Globals, x.Weaks, x.Pins, x.Heap.Pages, fmt.Sprint(x.Heap.Words))
}

// after does a call. It checks that the argument stays as it is, whatever is
// done to the result, and that the result is valid or, together with an error,
// that all of it is zero.
func after(t *testing.T, x api.Env, r request) (api.Env, uint64, api.Errno) {
	t.Helper()
	given, unchanged := envtest.Guarded(x)
	returned, v, e := boundary.Call(given, r.op, r.a, r.b, r.c)
	out := envtest.Copied(returned)
	if !envtest.Overwrite(returned) {
		t.Fatalf("%v: slices of the result share memory: %s", r, show(out))
	}
	if !unchanged() {
		t.Fatalf("%v: the argument has changed: %s", r, show(x))
	}
	if e == api.OK && !env.Valid(out) {
		t.Fatalf("%v: the result is not valid: %s", r, show(out))
	}
	if e != api.OK && (!envtest.Same(out, api.Env{}) || v != 0) {
		t.Fatalf("%v: with error %d, the result is %s and %d", r, e, show(out), v)
	}
	return out, v, e
}

// calls does a call in a valid environment and checks all that it returns.
func calls(t *testing.T, x api.Env, r request) (api.Env, uint64, api.Errno) {
	t.Helper()
	out, v, e := after(t, x, r)
	want, wantResult, wantError := expected(x, r)
	if e != wantError || v != wantResult || !envtest.Same(out, want) {
		t.Fatalf("%s\nbecomes, by %v, %s, %d, error %d, want\n%s, %d, error %d", show(x), r, show(out), v, e, show(want), wantResult, wantError)
	}
	if e == api.OK && (out.Heap.Space != x.Heap.Space) != needsCollection(x, r) {
		t.Fatalf("by %v, the space becomes %d, with %s", r, out.Heap.Space, show(x))
	}
	return out, v, e
}

// needsCollection reports whether a call asks for an object for which there is
// no room.
func needsCollection(x api.Env, r request) bool {
	hd, ok := asked(x, r)
	if !ok {
		return false
	}
	_, _, e := alloc.New(x.Heap, hd)
	return e == api.ErrMemory
}

// done is calls for a call that must not have an error, with its result.
func done(t *testing.T, x api.Env, r request, want uint64) api.Env {
	t.Helper()
	out, v, e := calls(t, x, r)
	if e != api.OK || v != want {
		t.Fatalf("%v: %d, error %d, want %d, with %s", r, v, e, want, show(x))
	}
	return out
}

// becomes is done, with the environment after it.
func becomes(t *testing.T, x api.Env, r request, want uint64, change func(x *api.Env)) api.Env {
	t.Helper()
	out := done(t, x, r, want)
	if y := envtest.Changed(x, change); !envtest.Same(out, y) {
		t.Errorf("%v: %s\nbecomes %s, want\n%s", r, show(x), show(out), show(y))
	}
	return out
}

// nothing changes nothing.
func nothing(*api.Env) {}

// refuses checks the error of a call.
func refuses(t *testing.T, x api.Env, r request, want api.Errno) {
	t.Helper()
	if _, _, e := calls(t, x, r); e != want {
		t.Errorf("%v: error %d, want %d, with %s", r, e, want, show(x))
	}
}
