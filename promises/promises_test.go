// Package promises tests what holds for all functions of all layers: they never panic, leave their arguments as they are, share no memory with them, and return nothing beside an error.
package promises

import (
	"fmt"
	"maps"
	"reflect"
	"slices"
	"testing"
	"time"

	"roundtable/api"
)

func TestAnyArguments(t *testing.T) {
	x := newValues(t)
	all := functions()
	for _, name := range slices.Sorted(maps.Keys(all)) {
		f := reflect.ValueOf(all[name])
		start := time.Now()
		for range 60 {
			var arguments, before []reflect.Value
			for i := range f.Type().NumIn() {
				arguments = append(arguments, copied(x.make(f.Type().In(i), 0)))
				before = append(before, copied(arguments[i]))
			}
			if fault := call(f, arguments, before); fault != "" {
				t.Errorf("%s: %s with %s", name, fault, text(before))
			}
			// A few functions search long for some arguments.
			if time.Since(start) > 2*time.Second {
				break
			}
		}
	}
}

// call calls a function, and returns what is wrong with it.
func call(f reflect.Value, arguments, before []reflect.Value) (fault string) {
	defer func() {
		if p := recover(); p != nil {
			fault = fmt.Sprint("panic: ", p)
		}
	}()
	results := f.Call(arguments)
	for i, v := range arguments {
		if !reflect.DeepEqual(v.Interface(), before[i].Interface()) || !unused(v) {
			return fmt.Sprint("the argument ", i, " is changed")
		}
	}
	if shared(append(slices.Clone(arguments), results...), len(arguments)) {
		return "memory is shared"
	}
	return besideError(results)
}

// besideError returns what is wrong with results beside an error: they are zero, but offsets and indices in front of it.
func besideError(results []reflect.Value) string {
	last := results[len(results)-1]
	if last.Type() != reflect.TypeFor[api.Errno]() || last.Int() == int64(api.OK) {
		return ""
	}
	for i, v := range results[:len(results)-1] {
		place := i == len(results)-2 && v.Kind() == reflect.Int
		if !place && !zero(v) {
			return fmt.Sprint("the result ", i, " beside an error is not zero")
		}
	}
	return ""
}

func zero(v reflect.Value) bool {
	switch v.Kind() {
	case reflect.Slice:
		return v.Len() == 0
	case reflect.Struct:
		for i := range v.NumField() {
			if !zero(v.Field(i)) {
				return false
			}
		}
		return true
	}
	return v.IsZero()
}

// unused reports whether the spare capacity of all slices is as it was made.
func unused(v reflect.Value) bool {
	switch v.Kind() {
	case reflect.Slice:
		all := v.Slice3(0, v.Cap(), v.Cap())
		for i := v.Len(); i < v.Cap(); i++ {
			if !all.Index(i).IsZero() {
				return false
			}
		}
		for i := range v.Len() {
			if !unused(v.Index(i)) {
				return false
			}
		}
	case reflect.Struct:
		for i := range v.NumField() {
			if !unused(v.Field(i)) {
				return false
			}
		}
	}
	return true
}

// shared reports whether two slices share memory, at least one of which does not belong to the first values, the arguments.
func shared(l []reflect.Value, arguments int) bool {
	type part struct {
		start, end uintptr
		result     bool
	}
	var parts []part
	var gather func(v reflect.Value, result bool)
	gather = func(v reflect.Value, result bool) {
		switch v.Kind() {
		case reflect.Slice:
			if size := uintptr(v.Cap()) * v.Type().Elem().Size(); size > 0 {
				parts = append(parts, part{v.Pointer(), v.Pointer() + size, result})
			}
			for i := range v.Len() {
				gather(v.Index(i), result)
			}
		case reflect.Struct:
			for i := range v.NumField() {
				gather(v.Field(i), result)
			}
		}
	}
	for i, v := range l {
		gather(v, i >= arguments)
	}
	slices.SortFunc(parts, func(a, b part) int { return int(int64(a.start) - int64(b.start)) })
	for i := 1; i < len(parts); i++ {
		if parts[i].start < parts[i-1].end && (parts[i].result || parts[i-1].result) {
			return true
		}
	}
	return false
}

func text(l []reflect.Value) string {
	s := ""
	for _, v := range l {
		s += fmt.Sprintf("%+v; ", v)
	}
	return s[:min(len(s), 1000)]
}
