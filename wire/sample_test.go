package wire_test

import (
	"fmt"
	"math/rand"
	"reflect"
	"slices"
	"strings"
	"testing"

	"tabellion/api"
	"tabellion/wire"
)

// structure is one that the package encodes and decodes.
type structure struct {
	name string
	kind reflect.Type
	put  func(x any) ([]byte, api.Errno)
	get  func(b []byte) (any, api.Errno)
}

func of[T any](put func(T) ([]byte, api.Errno), get func([]byte) (T, api.Errno)) structure {
	kind := reflect.TypeFor[T]()
	return structure{kind.Name(), kind,
		func(x any) ([]byte, api.Errno) { return put(x.(T)) },
		func(b []byte) (any, api.Errno) { return get(b) }}
}

func structures() []structure {
	return []structure{
		of(wire.PutCommand, wire.GetCommand),
		of(wire.PutEntry, wire.GetEntry),
		of(wire.PutRecord, wire.GetRecord),
		of(wire.PutSigned, wire.GetSigned),
		of(wire.PutDirectory, wire.GetDirectory),
	}
}

// filler makes structures; each of the functions is called for every thing of its sort, in the order of the encoding.
type filler struct {
	number func() int
	text   func() string
	digest func() api.Digest
	length func() int
}

func (f filler) fill(code string, v reflect.Value) {
	if inner, ok := element(code); ok {
		n := f.length()
		v.Set(reflect.MakeSlice(v.Type(), n, n))
		for i := range n {
			f.fill(inner, v.Index(i))
		}
		return
	}
	switch code {
	case "N":
		v.SetInt(int64(f.number()))
	case "S":
		v.SetString(f.text())
	case "D":
		v.Set(reflect.ValueOf(f.digest()))
	}
	for _, x := range fields[code] {
		f.fill(x.code, v.FieldByName(x.name))
	}
}

// made returns a new structure, which can be changed.
func (f filler) made(s structure) reflect.Value {
	v := reflect.New(s.kind).Elem()
	f.fill(s.name, v)
	return v
}

// counting is a filler whose things all differ, with lists of n elements.
func counting(n int) filler {
	i := 0
	next := func() int { i++; return i * 11 }
	return filler{
		number: next,
		text:   func() string { return fmt.Sprint("text", next()) },
		digest: func() api.Digest { return api.Digest{byte(next()), 15: byte(i), 31: byte(i * 3)} },
		length: func() int { return n },
	}
}

// numbers are counts at the edges at which the number of groups changes, and some between.
var numbers = []int{0, 1, 2, 5, 6, 126, 127, 128, 129, 255, 256, 300, 16383, 16384, 65536, 65537, 2097151, 2097152, 268435455, 268435456, 2147483646, 2147483647}

// texts are strings at the edges, with any bytes in them.
func texts() []string {
	all := make([]byte, 256)
	for i := range all {
		all[i] = byte(i)
	}
	return []string{"", "u", "\x00", "\xff", "\x80\x00\xfe", "żółw", string(all), strings.Repeat("a", 127), strings.Repeat("\x80", 128), strings.Repeat("n", 300)}
}

// random is a filler with things of all sorts, and lists of fewer than n elements.
func random(r *rand.Rand, n int) filler {
	words := texts()
	return filler{
		number: func() int { return numbers[r.Intn(len(numbers))] },
		text:   func() string { return words[r.Intn(len(words))] },
		digest: func() api.Digest {
			var d api.Digest
			r.Read(d[:])
			return d
		},
		length: func() int { return r.Intn(n) },
	}
}

// samples returns structures that can be encoded: zero, with lists of some lengths, and with things of all sorts.
func samples(s structure) []any {
	list := []any{reflect.Zero(s.kind).Interface()}
	for n := range 4 {
		list = append(list, counting(n).made(s).Interface())
	}
	r := rand.New(rand.NewSource(8))
	for range 40 {
		list = append(list, random(r, 4).made(s).Interface())
	}
	return list
}

// place is a field, or an element of a list, that is no structure itself.
type place struct {
	path, code string
	v          reflect.Value
}

// places returns those of v, in the order of the encoding: a list is one, ahead of its elements'.
func places(path, code string, v reflect.Value) []place {
	var list []place
	if inner, ok := element(code); ok {
		list = append(list, place{path, code, v})
		for i := range v.Len() {
			list = append(list, places(fmt.Sprintf("%s[%d]", path, i), inner, v.Index(i))...)
		}
		return list
	}
	if len(fields[code]) == 0 {
		return []place{{path, code, v}}
	}
	for _, f := range fields[code] {
		list = append(list, places(path+"."+f.name, f.code, v.FieldByName(f.name))...)
	}
	return list
}

// sized replaces the list at p by one of n elements, the first of which are those that it has.
func (p place) sized(n int) {
	l := reflect.MakeSlice(p.v.Type(), n, n)
	reflect.Copy(l, p.v)
	p.v.Set(l)
}

// stretched makes the list or the string at p n long, without memory for what it lacks: nothing but a call that refuses it may look there.
func (p place) stretched(n int) {
	if p.code == "S" {
		(*reflect.StringHeader)(p.v.Addr().UnsafePointer()).Len = n
		return
	}
	l := (*reflect.SliceHeader)(p.v.Addr().UnsafePointer())
	l.Len, l.Cap = n, n
}

// same reports whether a and b are alike; an empty list may be nil.
func same(a, b reflect.Value) bool {
	if a.Type() != b.Type() {
		return false
	}
	switch a.Kind() {
	case reflect.Slice:
		if a.Len() != b.Len() {
			return false
		}
		for i := range a.Len() {
			if !same(a.Index(i), b.Index(i)) {
				return false
			}
		}
		return true
	case reflect.Struct:
		for i := range a.NumField() {
			if !same(a.Field(i), b.Field(i)) {
				return false
			}
		}
		return true
	}
	return a.Interface() == b.Interface()
}

func value(x any) reflect.Value {
	return reflect.ValueOf(x)
}

func alike(x, y any) bool {
	return same(value(x), value(y))
}

// brief tells x, cut if it is long.
func brief(x any) string {
	s := fmt.Sprintf("%#v", x)
	return s[:min(len(s), 400)]
}

// hexed tells b, cut if it is long.
func hexed(b []byte) string {
	return fmt.Sprintf("%d bytes, % x", len(b), b[:min(len(b), 200)])
}

// mustPut fails if PutX(x) isn't b.
func mustPut(t *testing.T, s structure, x any, b []byte) {
	t.Helper()
	if got, e := s.put(x); !slices.Equal(got, b) || e != api.OK {
		t.Fatalf("P8.1: Put%s of %s is %s, %d; want %s, OK", s.name, brief(x), hexed(got), e, hexed(b))
	}
}

// mustNotPut fails if PutX(x) isn't refused with e, or answers anything beside it.
func mustNotPut(t *testing.T, s structure, x any, e api.Errno) {
	t.Helper()
	if b, f := s.put(x); len(b) > 0 || f != e {
		t.Fatalf("P8.1: Put%s of %s is %s, %d; want nothing, %d", s.name, brief(x), hexed(b), f, e)
	}
}

// mustGet fails if GetX(b) isn't x.
func mustGet(t *testing.T, s structure, b []byte, x any) {
	t.Helper()
	if got, e := s.get(b); !alike(got, x) || e != api.OK {
		t.Fatalf("P8.2: Get%s of %s is %s, %d; want %s, OK", s.name, hexed(b), brief(got), e, brief(x))
	}
}

// mustNotGet fails if GetX(b) isn't refused, or answers anything beside it.
func mustNotGet(t *testing.T, s structure, b []byte) {
	t.Helper()
	got, e := s.get(b)
	if e != api.ErrWireForm || !reflect.ValueOf(got).IsZero() {
		t.Fatalf("P8.2: Get%s of %s is %s, %d; want zero, ErrWireForm", s.name, hexed(b), brief(got), e)
	}
}

// holdPut holds PutX(x) against the chapter's words, and what it returns against GetX. It reports whether x can be encoded.
func holdPut(t *testing.T, s structure, x any) bool {
	t.Helper()
	if e := refusal(s.name, reflect.ValueOf(x)); e != api.OK {
		mustNotPut(t, s, x, e)
		return false
	}
	b := written(s, x).bytes
	mustPut(t, s, x, b)
	mustGet(t, s, b, x)
	return true
}

// holdGet holds GetX(b) against the chapter's words, and what it returns against PutX. It reports whether b is an encoding.
func holdGet(t *testing.T, s structure, b []byte) bool {
	t.Helper()
	x, ok := decoded(s, b)
	if !ok {
		mustNotGet(t, s, b)
		return false
	}
	mustGet(t, s, b, x)
	if again, e := s.put(x); !slices.Equal(again, b) || e != api.OK {
		t.Fatalf("P8.3: Get%s of %s is %s, whose encoding is %s, %d", s.name, hexed(b), brief(x), hexed(again), e)
	}
	return true
}
