package wire_test

import (
	"bytes"
	"encoding/binary"
	"reflect"
	"strings"
	"testing"

	"tabellion/api"
)

// table is that of the chapter, with the type of every field told: N a number, S a string, D a digest, L(X) a list.
const table = `
Command | Kind N, Client N, Seq N, User S, Key S, Epoch N, Root D
Council | Voters L(N), Learners L(N)
Entry | Index N, Term N, Kind N, Command Command, Council Council
Snapshot | Index N, Term N, Council Council, Data S
Head | Epoch N, Root D, Prev D
Signed | Head Head, Sign D
Record | Kind N, Term N, Vote N, Entry Entry, Index N, Snap Snapshot, Signed Signed
Version | Epoch N, Kind N, Key S
User | Name S, Versions L(Version)
Session | Client N, Seq N, Code N, Epoch N
Directory | Epoch N, Users L(User), Heads L(Head), Sessions L(Session)
`

type field struct{ name, code string }

// fields are those of the structures, by the table.
var fields = parsed(table)

func parsed(table string) map[string][]field {
	all := map[string][]field{}
	for line := range strings.Lines(strings.TrimSpace(table)) {
		name, rest, _ := strings.Cut(line, "|")
		for part := range strings.SplitSeq(rest, ",") {
			words := strings.Fields(part)
			all[strings.TrimSpace(name)] = append(all[strings.TrimSpace(name)], field{words[0], words[1]})
		}
	}
	return all
}

// element returns the code of the elements of a list, and whether code is that of a list.
func element(code string) (string, bool) {
	inner, ok := strings.CutPrefix(code, "L(")
	return strings.TrimSuffix(inner, ")"), ok
}

// refusal returns the error of the first field of v that cannot be encoded, in the order of the table.
func refusal(code string, v reflect.Value) api.Errno {
	if inner, ok := element(code); ok {
		if v.Len() > 4096 {
			return api.ErrLimit
		}
		for i := range v.Len() {
			if e := refusal(inner, v.Index(i)); e != api.OK {
				return e
			}
		}
		return api.OK
	}
	switch code {
	case "N":
		if v.Int() < 0 || v.Int() > 2147483647 {
			return api.ErrArg
		}
	case "S":
		if v.Len() > 65536 {
			return api.ErrLimit
		}
	}
	for _, f := range fields[code] {
		if e := refusal(f.code, v.FieldByName(f.name)); e != api.OK {
			return e
		}
	}
	return api.OK
}

// mark is where a count stands in an encoding: a number, or the length of a string or of a list.
type mark struct {
	at, size int
	n        uint64
	code     string
}

// text is an encoding, and where its counts stand.
type text struct {
	bytes []byte
	marks []mark
}

func (t *text) count(n int, code string) {
	b := binary.AppendUvarint(nil, uint64(n))
	t.marks = append(t.marks, mark{len(t.bytes), len(b), uint64(n), code})
	t.bytes = append(t.bytes, b...)
}

// write appends the encoding of v, also if it is beyond the limits.
func (t *text) write(code string, v reflect.Value) {
	if inner, ok := element(code); ok {
		t.count(v.Len(), code)
		for i := range v.Len() {
			t.write(inner, v.Index(i))
		}
		return
	}
	switch code {
	case "N":
		t.count(int(v.Int()), code)
	case "S":
		t.count(v.Len(), code)
		t.bytes = append(t.bytes, v.String()...)
	case "D":
		d := v.Interface().(api.Digest)
		t.bytes = append(t.bytes, d[:]...)
	}
	for _, f := range fields[code] {
		t.write(f.code, v.FieldByName(f.name))
	}
}

// written returns the encoding of x, also if it is beyond the limits.
func written(s structure, x any) text {
	var t text
	t.write(s.name, reflect.ValueOf(x))
	return t
}

// readCount returns the count that b begins with, and the rest.
func readCount(b []byte) (int, []byte, bool) {
	n, size := binary.Uvarint(b)
	if size <= 0 || n > 2147483647 || !bytes.Equal(binary.AppendUvarint(nil, n), b[:size]) {
		return 0, nil, false
	}
	return int(n), b[size:], true
}

// read sets v to what b begins with, and returns the rest.
func read(code string, v reflect.Value, b []byte) ([]byte, bool) {
	if inner, ok := element(code); ok {
		n, b, ok := readCount(b)
		if !ok || n > 4096 {
			return nil, false
		}
		for range n {
			x := reflect.New(v.Type().Elem()).Elem()
			if b, ok = read(inner, x, b); !ok {
				return nil, false
			}
			v.Set(reflect.Append(v, x))
		}
		return b, true
	}
	switch code {
	case "N":
		n, b, ok := readCount(b)
		v.SetInt(int64(n))
		return b, ok
	case "S":
		n, b, ok := readCount(b)
		if !ok || n > 65536 || n > len(b) {
			return nil, false
		}
		v.SetString(string(b[:n]))
		return b[n:], true
	case "D":
		if len(b) < 32 {
			return nil, false
		}
		v.Set(reflect.ValueOf(api.Digest(b[:32])))
		return b[32:], true
	}
	ok := true
	for _, f := range fields[code] {
		if b, ok = read(f.code, v.FieldByName(f.name), b); !ok {
			return nil, false
		}
	}
	return b, true
}

// decoded returns the structure whose encoding is b, and whether there is one; zero if not.
func decoded(s structure, b []byte) (any, bool) {
	v := reflect.New(s.kind).Elem()
	rest, ok := read(s.name, v, b)
	if !ok || len(rest) > 0 {
		return reflect.Zero(s.kind).Interface(), false
	}
	return v.Interface(), true
}

// TestTable: the table names every field of the structures of api.
func TestTable(t *testing.T) {
	if len(fields) != 11 {
		t.Fatalf("%d structures; want 11", len(fields))
	}
	var hold func(name string, kind reflect.Type)
	hold = func(name string, kind reflect.Type) {
		if inner, ok := element(name); ok {
			hold(inner, kind.Elem())
			return
		}
		if len(fields[name]) == 0 {
			return
		}
		if kind.Name() != name || kind.NumField() != len(fields[name]) {
			t.Errorf("%s of %d fields; the table has %s of %d", kind.Name(), kind.NumField(), name, len(fields[name]))
		}
		for _, f := range fields[name] {
			x, ok := kind.FieldByName(f.name)
			if !ok {
				t.Fatalf("%s has no field %s", name, f.name)
			}
			hold(f.code, x.Type)
		}
	}
	for _, s := range structures() {
		hold(s.name, s.kind)
	}
}
