package env_test

import (
	"fmt"
	"slices"
	"testing"

	"semispace/alloc"
	"semispace/api"
	"semispace/collect"
	"semispace/env"
	"semispace/envtest"
)

// show is a short form for messages: a heap may have thousands of words.
func show(x api.Env) string {
	return fmt.Sprintf("roots %v, locals %v, globals %v, weaks %v, pins %v, pages %v, words %.160v",
		x.Roots, x.Locals, x.Globals, x.Weaks, x.Pins, x.Heap.Pages, fmt.Sprint(x.Heap.Words))
}

// result is what a call returns besides an environment and an error.
type result struct {
	report api.Report
	addr   uint64
}

// call is a call that changes an environment.
type call func(x api.Env) (api.Env, result, api.Errno)

func collecting(x api.Env) (api.Env, result, api.Errno) {
	x, report, e := env.Collect(x)
	return x, result{report: report}, e
}

func allocating(hd api.Header) call {
	return func(x api.Env) (api.Env, result, api.Errno) {
		x, addr, e := env.Alloc(x, hd)
		return x, result{addr: addr}, e
	}
}

// after does a call. It checks that the argument stays as it is, whatever is
// done to the result, and that the result is valid or, together with an error,
// that all of it is zero.
func after(t *testing.T, x api.Env, do call) (api.Env, result, api.Errno) {
	t.Helper()
	given, unchanged := envtest.Guarded(x)
	returned, r, e := do(given)
	out := envtest.Copied(returned)
	if !envtest.Overwrite(returned) {
		t.Fatalf("slices of the result share memory: %s", show(out))
	}
	if !unchanged() {
		t.Fatalf("the argument has changed: %s", show(x))
	}
	if e == api.OK && !env.Valid(out) {
		t.Fatalf("the result is not valid: %s", show(out))
	}
	if e != api.OK && (!envtest.Same(out, api.Env{}) || r != result{}) {
		t.Fatalf("with error %d, the result is %s and %v", e, show(out), r)
	}
	return out, r, e
}

// becomes checks all that a call returns.
func becomes(t *testing.T, x api.Env, do call, want api.Env, wantResult result, wantError api.Errno) {
	t.Helper()
	out, r, e := after(t, x, do)
	if e != wantError || r != wantResult || !envtest.Same(out, want) {
		t.Fatalf("%s\nbecomes %s, %v, error %d, want\n%s, %v, error %d", show(x), show(out), r, e, show(want), wantResult, wantError)
	}
}

// done is after for a call that must not have an error.
func done(t *testing.T, x api.Env, do call) (api.Env, result) {
	t.Helper()
	out, r, e := after(t, x, do)
	if e != api.OK {
		t.Fatalf("error %d, with %s", e, show(x))
	}
	return out, r
}

// refuses checks the error of a call.
func refuses(t *testing.T, x api.Env, do call, want api.Errno) {
	t.Helper()
	becomes(t, x, do, api.Env{}, result{}, want)
}

// valid, strong and resolved are the calls that change nothing. They check that
// their argument stays as it is.
func valid(t *testing.T, x api.Env) bool {
	t.Helper()
	given, unchanged := envtest.Guarded(x)
	ok := env.Valid(given)
	if !unchanged() {
		t.Fatal("Valid has changed its argument")
	}
	return ok
}

func strong(t *testing.T, x api.Env) []uint64 {
	t.Helper()
	given, unchanged := envtest.Guarded(x)
	returned := env.Strong(given)
	l := slices.Clone(returned)
	envtest.Fill(returned, 99)
	if !unchanged() {
		t.Fatal("Strong has changed its argument, or shares memory with it")
	}
	return l
}

func resolved(t *testing.T, x api.Env, w uint64) (uint64, api.Errno) {
	t.Helper()
	given, unchanged := envtest.Guarded(x)
	ref, e := env.Resolve(given, w)
	if !unchanged() {
		t.Fatal("Resolve has changed its argument")
	}
	if e != api.OK && ref != 0 {
		t.Fatalf("with error %d, Resolve of %d is %d", e, w, ref)
	}
	return ref, e
}

// strongOf is Strong, from the words of 18.3.
func strongOf(x api.Env) []uint64 {
	l := slices.Clone(x.Roots)
	for _, s := range x.Locals.Slots {
		if s.Live {
			l = append(l, s.Ref)
		}
	}
	for _, y := range x.Globals.Entries {
		if y.Live {
			l = append(l, y.Ref)
		}
	}
	for _, p := range x.Pins {
		l = append(l, p.Ref)
	}
	return l
}

// weakOf are the weak roots.
func weakOf(x api.Env) []uint64 {
	var l []uint64
	for _, y := range x.Weaks.Entries {
		if y.Live {
			l = append(l, y.Ref)
		}
	}
	return l
}

// put gives other strong and weak roots to an environment.
func put(x api.Env, strong, weak []uint64) api.Env {
	x = envtest.Copied(x)
	next := func(l *[]uint64) (ref uint64) {
		ref, *l = (*l)[0], (*l)[1:]
		return ref
	}
	for k := range x.Roots {
		x.Roots[k] = next(&strong)
	}
	for k, s := range x.Locals.Slots {
		if s.Live {
			x.Locals.Slots[k].Ref = next(&strong)
		}
	}
	for k, y := range x.Globals.Entries {
		if y.Live {
			x.Globals.Entries[k].Ref = next(&strong)
		}
	}
	for k := range x.Pins {
		x.Pins[k].Ref = next(&strong)
	}
	for k, y := range x.Weaks.Entries {
		if y.Live {
			x.Weaks.Entries[k].Ref = next(&weak)
		}
	}
	return x
}

// collected is what Collect must return for a valid environment.
func collected(x api.Env) (api.Env, result, api.Errno) {
	h, strong, weak, report, e := collect.Collect(x.Heap, strongOf(x), weakOf(x))
	if e != api.OK {
		return api.Env{}, result{}, e
	}
	x = put(x, strong, weak)
	x.Heap = h
	return x, result{report: report}, api.OK
}

// allocated is what Alloc must return for a valid environment. It also reports
// whether it needs a collection.
func allocated(x api.Env, hd api.Header) (out api.Env, r result, full bool, e api.Errno) {
	out = envtest.Copied(x)
	out.Heap, r.addr, e = alloc.New(x.Heap, hd)
	if full = e == api.ErrMemory; full {
		if out, _, e = collected(x); e == api.OK {
			out.Heap, r.addr, e = alloc.New(out.Heap, hd)
		}
	}
	if e != api.OK {
		return api.Env{}, result{}, full, e
	}
	return out, r, full, api.OK
}
