package octet_test

import (
	"bytes"
	"encoding/binary"
	"strings"
	"testing"

	"tabellion/api"
	"tabellion/octet"
)

func TestAllIsDecodedInOrder(t *testing.T) {
	words := []string{"", "ab", strings.Repeat("w", 300), strings.Repeat("\xff", 65536)}
	var b []byte
	var e api.Errno
	for _, n := range counts {
		if b, e = octet.PutCount(b, n); e != api.OK {
			t.Fatalf("P1.5: PutCount of %d: %d", n, e)
		}
		for _, s := range words {
			if b, e = octet.PutBytes(b, s); e != api.OK {
				t.Fatalf("P1.5: PutBytes of %d bytes: %d", len(s), e)
			}
		}
		b = octet.PutDigest(b, api.Digest{byte(n), 31: 7})
	}
	r := octet.New(b)
	for _, n := range counts {
		if m, e := r.Count(); m != n || e != api.OK {
			t.Fatalf("P1.5: Count of %d is %d, %d", n, m, e)
		}
		for _, s := range words {
			if got, e := r.Bytes(); got != s || e != api.OK {
				t.Fatalf("P1.5: Bytes of %d bytes is %d bytes, %d", len(s), len(got), e)
			}
		}
		if d, e := r.Digest(); d != (api.Digest{byte(n), 31: 7}) || e != api.OK {
			t.Fatalf("P1.5: Digest is %x, %d", d, e)
		}
	}
	if r.Left() != 0 {
		t.Errorf("P1.5: %d bytes are left of nothing", r.Left())
	}
}

// strung calls f with each list of up to most of the letters.
func strung(letters []byte, most int, f func(b []byte)) {
	var walk func(b []byte)
	walk = func(b []byte) {
		f(b)
		if len(b) == most {
			return
		}
		for _, c := range letters {
			walk(append(bytes.Clone(b), c))
		}
	}
	walk(nil)
}

// isCount tells, by the library's own encoding, whether the front of b encodes a count.
func isCount(b []byte) bool {
	n, size := binary.Uvarint(b)
	return size > 0 && n <= api.MaxCount && bytes.Equal(binary.AppendUvarint(nil, n), b[:size])
}

func checkAccepted(t *testing.T, b []byte) {
	r := octet.New(b)
	n, e := r.Count()
	if (e == api.OK) != isCount(b) {
		t.Fatalf("P1.5: Count of % x is %d, %d", b, n, e)
	}
	if e == api.OK {
		if again, _ := octet.PutCount(nil, n); !bytes.Equal(again, b[:len(b)-r.Left()]) {
			t.Fatalf("P1.5: % x was decoded as %d, which is % x", b, n, again)
		}
	}
	r = octet.New(b)
	if s, e := r.Bytes(); e == api.OK {
		if again, _ := octet.PutBytes(nil, s); !bytes.Equal(again, b[:len(b)-r.Left()]) {
			t.Fatalf("P1.5: % x was decoded as %q, which is % x", b, s, again)
		}
	}
}

func TestNothingElseIsAccepted(t *testing.T) {
	all := make([]byte, 256)
	for i := range all {
		all[i] = byte(i)
	}
	strung(all, 2, func(b []byte) { checkAccepted(t, b) })
	strung([]byte{0, 1, 7, 8, 127, 128, 255}, 6, func(b []byte) { checkAccepted(t, b) })
	d := digest()
	r := octet.New(d[:])
	if got, _ := r.Digest(); !bytes.Equal(octet.PutDigest(nil, got), d[:]) {
		t.Errorf("P1.5: %x was decoded as %x", d, got)
	}
}
