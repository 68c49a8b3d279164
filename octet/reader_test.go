package octet_test

import (
	"bytes"
	"encoding/binary"
	"strings"
	"testing"

	"tabellion/api"
	"tabellion/octet"
)

// mustStay fails if the reader's position is not the one before rest.
func mustStay(t *testing.T, r *octet.Reader, rest []byte) {
	t.Helper()
	if r.Left() != len(rest) {
		t.Fatalf("P1.4: %d bytes are left after an error; want %d", r.Left(), len(rest))
	}
}

func TestNewAndLeft(t *testing.T) {
	for n := range 40 {
		if r := octet.New(make([]byte, n)); r == nil || r.Left() != n || r.Left() != n {
			t.Errorf("P1.2: New of %d bytes", n)
		}
	}
	if r := octet.New(nil); r == nil || r.Left() != 0 {
		t.Errorf("P1.2: New(nil) is no reader of nothing")
	} else if _, e := r.Count(); e != api.ErrOctetEnd {
		t.Errorf("P1.2: Count of nothing is %d; want ErrOctetEnd", e)
	}
	r := octet.New([]byte{1, 2, 3})
	for i := 1; i <= 3; i++ {
		if n, e := r.Count(); n != i || e != api.OK || r.Left() != 3-i {
			t.Errorf("P1.2: count %d is %d, %d, left %d", i, n, e, r.Left())
		}
	}
}

func TestNewReadsOnlyWhatIsPassed(t *testing.T) {
	whole, prefix := roomyPrefix()
	r := octet.New(prefix)
	if r.Left() != 2 {
		t.Errorf("P1.2: left %d of 2", r.Left())
	}
	if _, e := r.Digest(); e != api.ErrOctetEnd {
		t.Errorf("P1.4: a digest was read beyond the end: %d", e)
	}
	if _, e := r.Bytes(); e != api.ErrOctetEnd {
		t.Errorf("P1.4: bytes were read beyond the end: %d", e)
	}
	whole[0], whole[1] = 70, 71
	if n, e := r.Count(); n != 8 || e != api.OK {
		t.Errorf("R2: the reader keeps what was passed to New: %d, %d", n, e)
	}
	if other, _ := octet.New(whole).Count(); other != 70 {
		t.Errorf("R2: the reader changed what was passed to New: %d", other)
	}
}

func TestReadersDoNotAffectEachOther(t *testing.T) {
	b := []byte{1, 2, 3}
	first, second := octet.New(b), octet.New(b)
	first.Count()
	first.Count()
	if n, e := second.Count(); n != 1 || e != api.OK || first.Left() != 1 || second.Left() != 2 {
		t.Errorf("R3: %d, %d, left %d and %d", n, e, first.Left(), second.Left())
	}
}

func TestNilReader(t *testing.T) {
	var r *octet.Reader
	if n, e := r.Count(); n != 0 || e != api.ErrNil {
		t.Errorf("R3: Count is %d, %d", n, e)
	}
	if s, e := r.Bytes(); s != "" || e != api.ErrNil {
		t.Errorf("R3: Bytes is %q, %d", s, e)
	}
	if d, e := r.Digest(); d != (api.Digest{}) || e != api.ErrNil {
		t.Errorf("R3: Digest is %x, %d", d, e)
	}
	if r.Left() != 0 {
		t.Errorf("P1.2: Left of a nil reader is %d", r.Left())
	}
}

func TestCount(t *testing.T) {
	for _, x := range []struct {
		b    string
		n    int
		left int
	}{
		{"\x00", 0, 0}, {"\x00\x00", 0, 1}, {"\x00\x80", 0, 1}, {"\x7f", 127, 0}, {"\x80\x01", 128, 0}, {"\xac\x02\x09", 300, 1},
		{"\xff\xff\xff\x7f\xff", 268435455, 1}, {"\x80\x80\x80\x80\x01", 268435456, 0},
		{"\xff\xff\xff\xff\x07", 2147483647, 0}, {"\xff\xff\xff\xff\x07\xff\xff", 2147483647, 2}, {"\xfe\xff\xff\xff\x07", 2147483646, 0},
	} {
		r := octet.New([]byte(x.b))
		if n, e := r.Count(); n != x.n || e != api.OK || r.Left() != x.left {
			t.Errorf("P1.3: Count of % x is %d, %d, left %d; want %d, left %d", x.b, n, e, r.Left(), x.n, x.left)
		}
	}
	for _, n := range counts {
		r := octet.New(append(binary.AppendUvarint(nil, uint64(n)), 200, 200))
		if m, e := r.Count(); m != n || e != api.OK || r.Left() != 2 {
			t.Errorf("P1.3: Count of %d is %d, %d, left %d", n, m, e, r.Left())
		}
	}
}

// badCounts are bytes at whose front there is no count.
var badCounts = []struct {
	b string
	e api.Errno
}{
	{"", api.ErrOctetEnd}, {"\x80", api.ErrOctetEnd}, {"\xff", api.ErrOctetEnd}, {"\x80\x80", api.ErrOctetEnd},
	{"\x80\x80\x80", api.ErrOctetEnd}, {"\xff\xff\xff\xff", api.ErrOctetEnd}, {"\x80\x80\x80\x80", api.ErrOctetEnd},
	{"\x80\x80\x80\x80\x80", api.ErrOctetForm}, {"\xff\xff\xff\xff\xff", api.ErrOctetForm},
	{"\xff\xff\xff\xff\xff\x01", api.ErrOctetForm}, {"\x80\x80\x80\x80\x80\x80\x80\x01", api.ErrOctetForm},
	// Groups so far behind that they no longer weigh anything in 64 bits.
	{strings.Repeat("\x80", 10) + "\x01", api.ErrOctetForm}, {"\x85" + strings.Repeat("\x80", 19) + "\x01", api.ErrOctetForm},
	{"\x80\x00", api.ErrOctetForm}, {"\xff\x00", api.ErrOctetForm}, {"\x80\x80\x00", api.ErrOctetForm}, {"\x80\x80\x80\x00", api.ErrOctetForm},
	{"\x80\x80\x80\x80\x00", api.ErrOctetForm}, {"\xff\xff\xff\xff\x00\x01", api.ErrOctetForm},
	{"\x80\x80\x80\x80\x08", api.ErrOctetForm}, {"\xff\xff\xff\xff\x08", api.ErrOctetForm},
	{"\x80\x80\x80\x80\x10", api.ErrOctetForm}, {"\x81\x80\x80\x80\x10", api.ErrOctetForm}, {"\x80\x80\x80\x80\x7f", api.ErrOctetForm}, {"\xff\xff\xff\xff\x7f", api.ErrOctetForm},
}

func TestCountOfNoCount(t *testing.T) {
	for _, x := range badCounts {
		r := octet.New([]byte(x.b))
		for range 2 {
			if n, e := r.Count(); n != 0 || e != x.e {
				t.Errorf("P1.3: Count of % x is %d, %d; want 0, %d", x.b, n, e, x.e)
			}
			if s, e := r.Bytes(); s != "" || e != x.e {
				t.Errorf("P1.4: Bytes of % x is %q, %d; want nothing, %d", x.b, s, e, x.e)
			}
			mustStay(t, r, []byte(x.b))
		}
	}
}

func TestBytes(t *testing.T) {
	for _, s := range []string{"", "a", "ab", "\x00\xff\x80", strings.Repeat("x", 127), strings.Repeat("y", 128), strings.Repeat("z", 65536)} {
		b := append(binary.AppendUvarint(nil, uint64(len(s))), s...)
		for _, tail := range []string{"", "q", strings.Repeat("\xff", 70)} {
			r := octet.New(append(bytes.Clone(b), tail...))
			if got, e := r.Bytes(); got != s || e != api.OK || r.Left() != len(tail) {
				t.Errorf("P1.4: Bytes of %d is %d bytes, %d, left %d", len(s), len(got), e, r.Left())
			}
		}
	}
}

func TestBytesOfNoByteString(t *testing.T) {
	long := append([]byte{0x81, 0x80, 0x04}, make([]byte, 65537)...)
	for _, x := range []struct {
		b []byte
		e api.Errno
	}{
		{[]byte{1}, api.ErrOctetEnd}, {[]byte{3, 'c'}, api.ErrOctetEnd}, {[]byte{3, 'c', 'd'}, api.ErrOctetEnd}, {[]byte{0x80, 0x01, 'c'}, api.ErrOctetEnd},
		{[]byte{0x80, 0x80, 0x04}, api.ErrOctetEnd}, {append([]byte{0x80, 0x80, 0x04}, make([]byte, 65535)...), api.ErrOctetEnd},
		{long, api.ErrOctetForm}, {long[:3], api.ErrOctetForm}, {[]byte{0xff, 0xff, 0xff, 0xff, 0x07}, api.ErrOctetForm},
	} {
		r := octet.New(x.b)
		for range 2 {
			if s, e := r.Bytes(); s != "" || e != x.e {
				t.Errorf("P1.4: Bytes of %d bytes is %d bytes, %d; want nothing, %d", len(x.b), len(s), e, x.e)
			}
			mustStay(t, r, x.b)
		}
	}
	r := octet.New([]byte{3, 'c'})
	r.Bytes()
	if n, e := r.Count(); n != 3 || e != api.OK || r.Left() != 1 {
		t.Errorf("P1.4: after an error Count is %d, %d, left %d", n, e, r.Left())
	}
}

func TestDigest(t *testing.T) {
	d := digest()
	for n := range 32 {
		r := octet.New(d[:n])
		for range 2 {
			if got, e := r.Digest(); got != (api.Digest{}) || e != api.ErrOctetEnd {
				t.Errorf("P1.4: Digest of %d bytes is %x, %d; want zeros, ErrOctetEnd", n, got, e)
			}
			mustStay(t, r, d[:n])
		}
	}
	for _, tail := range []string{"", "\x05", strings.Repeat("z", 31)} {
		r := octet.New(append(bytes.Clone(d[:]), tail...))
		if got, e := r.Digest(); got != d || e != api.OK || r.Left() != len(tail) {
			t.Errorf("P1.4: Digest of %d bytes is %x, %d, left %d", 32+len(tail), got, e, r.Left())
		}
		if got, e := r.Digest(); got != (api.Digest{}) || e != api.ErrOctetEnd {
			t.Errorf("P1.4: a second Digest is %x, %d", got, e)
		}
	}
}
