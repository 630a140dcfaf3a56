// Package rules_test tests the rules R1 to R5 of the document (promise P1) with all functions of the packages. Which error comes first is tested in the packages.
package rules_test

import (
	"math"
	"math/rand/v2"
	"reflect"
	"slices"
	"testing"

	"spokeshave/api"
)

// functions has the functions of a package by their names. Each one is given what it needs by a struct, and returns all results, the error last.
type functions[G any] map[string]func(g G) []any

func results(l ...any) []any { return l }

// checkRules tests functions with arguments for which all of them return OK, and with others.
func checkRules[G any](t *testing.T, all functions[G], good G) {
	t.Helper()
	good = copied(good) // no two lists of the arguments share memory
	first := map[string][]any{}
	for name, call := range all {
		first[name] = call(copied(good))
		if e := errorOf(first[name]); e != api.OK {
			t.Errorf("%s: %d with good arguments", name, e)
		}
	}
	for name, call := range all {
		checkCall(t, name, call, good)
		if again := call(copied(good)); !reflect.DeepEqual(again, first[name]) {
			t.Errorf("%s: %v, then %v (R4)", name, first[name], again)
		}
		checkEmptyLists(t, name, call, good)
	}
	random := rand.New(rand.NewPCG(1, 2))
	for range 500 {
		wild := copied(good)
		for range random.IntN(4) {
			spoil(random, reflect.ValueOf(&wild).Elem())
		}
		wild = copied(wild)
		for name, call := range all {
			checkCall(t, name, call, wild)
		}
	}
}

// checkCall tests that a call changes no argument (R3), that its lists share no memory with them or with each other (R3), and that beside an error all results are zero values (R1). A panic ends the tests (R2).
func checkCall[G any](t *testing.T, name string, call func(G) []any, g G) {
	t.Helper()
	before := copied(g)
	l := call(g)
	if !reflect.DeepEqual(g, before) {
		t.Fatalf("%s: changes its arguments, which were %v (R3)", name, before)
	}
	spans := spansOf(reflect.ValueOf(g))
	for _, x := range l {
		spans = append(spans, spansOf(reflect.ValueOf(x))...)
	}
	slices.SortFunc(spans, func(a, b [2]uintptr) int { return int(a[0]) - int(b[0]) })
	for i := range spans[min(1, len(spans)):] {
		if spans[i][1] > spans[i+1][0] {
			t.Fatalf("%s: lists share memory with %v (R3)", name, g)
		}
	}
	if errorOf(l) == api.OK {
		return
	}
	for _, x := range l[:len(l)-1] {
		if v := reflect.ValueOf(x); !v.IsZero() && (v.Kind() != reflect.Slice || v.Len() > 0) {
			t.Fatalf("%s: %v beside the error %d of %v (R1)", name, x, errorOf(l), g)
		}
	}
}

// checkEmptyLists tests that each list of the arguments may be nil if it is empty (R5).
func checkEmptyLists[G any](t *testing.T, name string, call func(G) []any, good G) {
	t.Helper()
	for i, v := range partsOf(reflect.ValueOf(&good).Elem()) {
		if v.Kind() != reflect.Slice {
			continue
		}
		none, empty := copied(good), copied(good)
		at := partsOf(reflect.ValueOf(&none).Elem())[i]
		at.Set(reflect.Zero(at.Type()))
		at = partsOf(reflect.ValueOf(&empty).Elem())[i]
		at.Set(reflect.MakeSlice(at.Type(), 0, 0))
		if x, y := call(none), call(empty); !alike(x, y) {
			t.Fatalf("%s: %v with nil, but %v with an empty list (R5)", name, x, y)
		}
	}
}

// errorOf returns the error of a call, which is its last result.
func errorOf(l []any) api.Errno {
	return l[len(l)-1].(api.Errno)
}

// spoil changes a number, a text or a list somewhere in a value.
func spoil(random *rand.Rand, v reflect.Value) {
	wild := []int{math.MinInt, math.MinInt + 1, -1 << 62, -300001, -9, -8, -2, -1, 0, 1, 2, 3, 5, 8, 9, 30, 48, 401, 5000, 300000, 300001, 600000, 600001, 10000000, 1 << 32, 1 << 62, math.MaxInt}
	texts := []string{"", "-", "a", "Z9-", "9", "a b", "a\n", "-0", "01", "1 2 3\n", "aaaaaaaaaaaaa", "\xff", "\u00e4"}
	parts := partsOf(v)
	part := parts[random.IntN(len(parts))]
	switch part.Kind() {
	case reflect.Int:
		part.SetInt(int64(wild[random.IntN(len(wild))]))
	case reflect.Bool:
		part.SetBool(!part.Bool())
	case reflect.String:
		text, other := part.String(), texts[random.IntN(len(texts))]
		from := random.IntN(len(text) + 1)
		to := from + random.IntN(len(text)-from+1)
		part.SetString(text[:from] + other + text[to:])
	case reflect.Slice:
		from := random.IntN(part.Len() + 1)
		to := from + random.IntN(part.Len()-from+1)
		rest := part.Slice(from, to)
		for range random.IntN(3) {
			rest = reflect.AppendSlice(rest.Slice3(0, rest.Len(), rest.Len()), part)
		}
		part.Set(rest)
	}
}

// partsOf returns all numbers, texts and lists in a value.
func partsOf(v reflect.Value) []reflect.Value {
	var parts []reflect.Value
	switch v.Kind() {
	case reflect.Struct:
		for i := range v.NumField() {
			parts = append(parts, partsOf(v.Field(i))...)
		}
		return parts
	case reflect.Slice, reflect.Array:
		for i := range v.Len() {
			parts = append(parts, partsOf(v.Index(i))...)
		}
		if v.Kind() == reflect.Array {
			return parts
		}
	}
	return append(parts, v)
}

// spansOf returns where the memory of each list in a value begins and ends, with what appending may use.
func spansOf(v reflect.Value) [][2]uintptr {
	var spans [][2]uintptr
	for _, part := range partsOf(v) {
		if part.Kind() != reflect.Slice {
			continue
		}
		if size := uintptr(part.Cap()) * part.Type().Elem().Size(); size > 0 {
			spans = append(spans, [2]uintptr{part.Pointer(), part.Pointer() + size})
		}
	}
	return spans
}

// copied returns a copy that shares no memory; its empty lists are nil where the others are.
func copied[T any](x T) T {
	return deepCopy(reflect.ValueOf(x), false).Interface().(T)
}

// alike reports whether two lists of results are equal, a nil list being an empty one.
func alike(a, b []any) bool {
	return slices.EqualFunc(a, b, func(x, y any) bool {
		return reflect.DeepEqual(deepCopy(reflect.ValueOf(x), true).Interface(), deepCopy(reflect.ValueOf(y), true).Interface())
	})
}

// deepCopy returns a copy that shares no memory; with filled, it has no nil lists.
func deepCopy(v reflect.Value, filled bool) reflect.Value {
	to := reflect.New(v.Type()).Elem()
	switch v.Kind() {
	case reflect.Slice:
		if v.IsNil() && !filled {
			return to
		}
		to.Set(reflect.MakeSlice(v.Type(), v.Len(), v.Len()))
		for i := range v.Len() {
			to.Index(i).Set(deepCopy(v.Index(i), filled))
		}
	case reflect.Struct:
		for i := range v.NumField() {
			to.Field(i).Set(deepCopy(v.Field(i), filled))
		}
	case reflect.Array:
		for i := range v.Len() {
			to.Index(i).Set(deepCopy(v.Index(i), filled))
		}
	default:
		to.Set(v)
	}
	return to
}
