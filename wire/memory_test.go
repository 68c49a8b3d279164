package wire_test

import (
	"bytes"
	"fmt"
	"reflect"
	"slices"
	"testing"
)

// span is the memory of a list, up to its capacity.
type span struct {
	name     string
	from, to uintptr
}

// spans returns those of all lists in v.
func spans(name string, v reflect.Value) []span {
	var list []span
	switch v.Kind() {
	case reflect.Slice:
		if v.Cap() > 0 {
			list = append(list, span{name, v.Pointer(), v.Pointer() + uintptr(v.Cap())*v.Type().Elem().Size()})
		}
		for i := range v.Len() {
			if v.Type().Elem().Kind() == reflect.Struct {
				list = append(list, spans(fmt.Sprintf("%s[%d]", name, i), v.Index(i))...)
			}
		}
	case reflect.Struct:
		for i := range v.NumField() {
			list = append(list, spans(name+"."+v.Type().Field(i).Name, v.Field(i))...)
		}
	}
	return list
}

// mustBeApart fails if two of the spans overlap.
func mustBeApart(t *testing.T, list []span) {
	t.Helper()
	slices.SortFunc(list, func(a, b span) int {
		if a.from < b.from {
			return -1
		}
		return 1
	})
	for i := 1; i < len(list); i++ {
		if list[i-1].to > list[i].from {
			t.Fatalf("R2: %s and %s share memory", list[i-1].name, list[i].name)
		}
	}
}

// deep returns a copy of v, whose lists are new.
func deep(v reflect.Value) reflect.Value {
	c := reflect.New(v.Type()).Elem()
	c.Set(v)
	switch v.Kind() {
	case reflect.Slice:
		if !v.IsNil() {
			c.Set(reflect.MakeSlice(v.Type(), v.Len(), v.Len()))
		}
		for i := range v.Len() {
			c.Index(i).Set(deep(v.Index(i)))
		}
	case reflect.Struct:
		for i := range v.NumField() {
			c.Field(i).Set(deep(v.Field(i)))
		}
	case reflect.String:
		c.SetString(string([]byte(v.String())))
	}
	return c
}

// whole returns v with each list grown to its capacity.
func whole(v reflect.Value) reflect.Value {
	c := deep(v)
	switch v.Kind() {
	case reflect.Slice:
		if !v.IsNil() {
			c.Set(deep(v.Slice(0, v.Cap())))
		}
		for i := range v.Len() {
			c.Index(i).Set(whole(v.Index(i)))
		}
	case reflect.Struct:
		for i := range v.NumField() {
			c.Field(i).Set(whole(v.Field(i)))
		}
	}
	return c
}

// roomy gives all lists in v room behind their ends, in which foreign things are.
func roomy(v reflect.Value) {
	switch v.Kind() {
	case reflect.Slice:
		n := v.Len()
		l := reflect.MakeSlice(v.Type(), n+5, n+5)
		for i := range 5 {
			overwrite(l.Index(n + i))
		}
		reflect.Copy(l, v)
		v.Set(l.Slice(0, n))
		for i := range n {
			roomy(v.Index(i))
		}
	case reflect.Struct:
		for i := range v.NumField() {
			roomy(v.Field(i))
		}
	}
}

// overwrite replaces all that is in v, and in the memory of its lists.
func overwrite(v reflect.Value) {
	switch v.Kind() {
	case reflect.Slice:
		all := v.Slice(0, v.Cap())
		for i := range all.Len() {
			overwrite(all.Index(i))
		}
	case reflect.Struct:
		for i := range v.NumField() {
			overwrite(v.Field(i))
		}
	case reflect.Array:
		for i := range v.Len() {
			overwrite(v.Index(i))
		}
	case reflect.Int:
		v.SetInt(7777)
	case reflect.Uint8:
		v.SetUint(0x77)
	case reflect.String:
		v.SetString("overwritten")
	}
}

func TestPutKeepsAndChangesNothing(t *testing.T) {
	for _, s := range structures() {
		for _, x := range samples(s) {
			v := reflect.New(s.kind).Elem()
			v.Set(deep(value(x)))
			roomy(v)
			before := whole(v)
			first, _ := s.put(v.Interface())
			second, _ := s.put(v.Interface())
			want := bytes.Clone(first)
			if !same(whole(v), before) {
				t.Fatalf("R2: Put%s changed %s", s.name, brief(x))
			}
			mustBeApart(t, slices.Concat(spans("argument", v), spans("first", value(first)), spans("second", value(second))))
			overwrite(value(second))
			if !same(whole(v), before) || !bytes.Equal(first, want) {
				t.Fatalf("R2: an answer of Put%s shares memory with another one or with what was handed in", s.name)
			}
			overwrite(v)
			if !bytes.Equal(first, want) {
				t.Fatalf("R2: an answer of Put%s changes with what was handed in", s.name)
			}
			mustPut(t, s, x, want)
		}
	}
}

func TestPutThatIsRefusedChangesNothing(t *testing.T) {
	for _, s := range structures() {
		for i := range places("", s.name, counting(2).made(s)) {
			v := counting(2).made(s)
			roomy(v)
			places("", s.name, v)[i].spoil(i)
			before := whole(v)
			s.put(v.Interface())
			if !same(whole(v), before) {
				t.Fatalf("R2: Put%s changed %s", s.name, brief(v.Interface()))
			}
		}
	}
}

func TestGetKeepsAndChangesNothing(t *testing.T) {
	for _, s := range structures() {
		for _, x := range samples(s) {
			b := written(s, x).bytes
			room := append(bytes.Clone(b), bytes.Repeat([]byte{0x55}, 100)...)
			before := bytes.Clone(room)
			first, second := reflect.New(s.kind).Elem(), reflect.New(s.kind).Elem()
			for _, v := range []reflect.Value{first, second} {
				y, _ := s.get(room[:len(b)])
				v.Set(value(y))
			}
			if !bytes.Equal(room, before) {
				t.Fatalf("R2: Get%s changed %s", s.name, hexed(b))
			}
			mustBeApart(t, slices.Concat(spans("argument", value(room)), spans("first", first), spans("second", second)))
			overwrite(second)
			if !same(first, value(x)) || !bytes.Equal(room, before) {
				t.Fatalf("R2: an answer of Get%s shares memory with another one or with what was handed in", s.name)
			}
			overwrite(value(room))
			if !same(first, value(x)) {
				t.Fatalf("R2: an answer of Get%s changes with what was handed in", s.name)
			}
			copy(room, before)
			overwrite(first)
			if !bytes.Equal(room, before) {
				t.Fatalf("R2: an answer of Get%s shares memory with what was handed in", s.name)
			}
			mustGet(t, s, b, x)
		}
	}
}

func TestGetThatIsRefusedChangesNothing(t *testing.T) {
	for _, s := range structures() {
		for _, x := range samples(s) {
			b := written(s, x).bytes
			for n := range len(b) {
				room := append(bytes.Clone(b[:n]), bytes.Repeat([]byte{0x55}, 50)...)
				before := bytes.Clone(room)
				s.get(room[:n])
				if !bytes.Equal(room, before) {
					t.Fatalf("R2: Get%s changed %s", s.name, hexed(before[:n]))
				}
			}
		}
	}
}
