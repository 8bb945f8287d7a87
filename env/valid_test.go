package env_test

import (
	"slices"
	"testing"

	"semispace/api"
	"semispace/audit"
	"semispace/envtest"
	"semispace/heaptest"
	"semispace/pin"
	"semispace/scope"
	"semispace/slots"
	"semispace/walk"
)

// 18.2: each condition.
func TestValidConditions(t *testing.T) {
	for k, x := range envtest.Corrupt() {
		if valid(t, x) {
			t.Errorf("%d is valid: %s", k, show(x))
		}
	}
}

// 18.2: environments that are valid.
func TestValid(t *testing.T) {
	for k, x := range envtest.Allowed() {
		if !valid(t, x) {
			t.Errorf("%d is not valid: %s", k, show(x))
		}
	}
}

// isValid is Valid, from the words of 18.2.
func isValid(x api.Env) bool {
	if !audit.Good(x.Heap) || !scope.Valid(x.Locals) || !slots.Valid(x.Globals) || !slots.Valid(x.Weaks) || !pin.Match(x.Heap, x.Pins) {
		return false
	}
	refs := slices.Clone(x.Roots)
	for _, s := range x.Locals.Slots {
		refs = append(refs, s.Ref)
	}
	for _, y := range x.Globals.Entries {
		if y.Live && y.Ref == 0 {
			return false
		}
		refs = append(refs, y.Ref)
	}
	for _, y := range x.Weaks.Entries {
		refs = append(refs, y.Ref)
	}
	for _, ref := range refs {
		if ref != 0 && !walk.IsObject(x.Heap, ref) {
			return false
		}
	}
	return true
}

// 18.2: irregular environments, valid and spoiled.
func TestValidIrregular(t *testing.T) {
	results := map[bool]int{}
	for seed := range 2000 {
		x := heaptest.Numbers(seed + 1)
		y := envtest.Irregular(&x)
		for range x.Below(3) {
			envtest.Spoil(&x, &y)
		}
		ok := valid(t, y)
		results[ok]++
		if ok != isValid(y) {
			t.Fatalf("seed %d: Valid is %v for %s", seed, ok, show(y))
		}
	}
	if min(results[true], results[false]) < 500 {
		t.Errorf("hardly any of one kind: %v", results)
	}
}
