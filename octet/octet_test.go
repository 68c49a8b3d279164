package octet_test

import (
	"bytes"
	"encoding/binary"
	"math"
	"strings"
	"testing"

	"tabellion/api"
	"tabellion/octet"
)

// counts are the edges at which the number of groups or the error changes, and some between.
var counts = []int{0, 1, 2, 126, 127, 128, 129, 255, 256, 300, 16383, 16384, 65535, 65536, 65537, 2097151, 2097152, 268435455, 268435456, 2147483646, 2147483647}

// digest is one whose bytes all differ.
func digest() api.Digest {
	var d api.Digest
	for i := range d {
		d[i] = byte(200 - 3*i)
	}
	return d
}

// roomyPrefix is a list of two bytes with foreign bytes behind it.
func roomyPrefix() (whole, prefix []byte) {
	whole = bytes.Repeat([]byte{0x77}, 100)
	whole[0], whole[1] = 8, 9
	return whole, whole[:2]
}

func TestPutCount(t *testing.T) {
	for _, x := range []struct {
		n    int
		want string
	}{
		{0, "\x00"}, {1, "\x01"}, {127, "\x7f"}, {128, "\x80\x01"}, {129, "\x81\x01"}, {255, "\xff\x01"}, {300, "\xac\x02"},
		{16383, "\xff\x7f"}, {16384, "\x80\x80\x01"}, {2097151, "\xff\xff\x7f"}, {2097152, "\x80\x80\x80\x01"},
		{268435455, "\xff\xff\xff\x7f"}, {268435456, "\x80\x80\x80\x80\x01"}, {2147483647, "\xff\xff\xff\xff\x07"},
	} {
		if b, e := octet.PutCount(nil, x.n); string(b) != x.want || e != api.OK {
			t.Errorf("P1.1: PutCount(nil, %d) is % x, %d; want % x", x.n, b, e, x.want)
		}
		if b, e := octet.PutCount([]byte("ab"), x.n); string(b) != "ab"+x.want || e != api.OK {
			t.Errorf("P1.1: PutCount(ab, %d) is % x, %d; want % x", x.n, b, e, "ab"+x.want)
		}
	}
	for n := 0; n < 70000; n++ {
		if b, e := octet.PutCount(nil, n); !bytes.Equal(b, binary.AppendUvarint(nil, uint64(n))) || e != api.OK {
			t.Fatalf("P1.1: PutCount(nil, %d) is % x, %d", n, b, e)
		}
	}
}

func TestPutCountOfNoCount(t *testing.T) {
	for _, n := range []int{-1, -2, -128, math.MinInt32, math.MinInt, math.MaxInt, math.MaxInt32 + 1, 1 << 32, 1<<32 + 5} {
		if b, e := octet.PutCount([]byte{1}, n); len(b) != 0 || e != api.ErrArg {
			t.Errorf("P1.1: PutCount(1, %d) is % x, %d; want nothing, ErrArg", n, b, e)
		}
	}
}

func TestPutBytes(t *testing.T) {
	for _, s := range []string{"", "ab", "\x00", "\xff\xfe\x80", "żółw", strings.Repeat("x", 127), strings.Repeat("y", 128), strings.Repeat("z", 65535), strings.Repeat("z", 65536)} {
		want := string(binary.AppendUvarint(nil, uint64(len(s)))) + s
		if b, e := octet.PutBytes(nil, s); string(b) != want || e != api.OK {
			t.Errorf("P1.1: PutBytes(nil, %d bytes) is %d bytes, %d", len(s), len(b), e)
		}
		if b, e := octet.PutBytes([]byte{9}, s); string(b) != "\x09"+want || e != api.OK {
			t.Errorf("P1.1: PutBytes(9, %d bytes) is %d bytes, %d", len(s), len(b), e)
		}
	}
	if b, e := octet.PutBytes(nil, "ab"); string(b) != "\x02ab" || e != api.OK {
		t.Errorf("P1.1: PutBytes(nil, ab) is % x, %d", b, e)
	}
	for _, n := range []int{65537, 65538, 200000} {
		if b, e := octet.PutBytes([]byte{9}, strings.Repeat("z", n)); len(b) != 0 || e != api.ErrLimit {
			t.Errorf("P1.1: PutBytes(9, %d bytes) is %d bytes, %d; want nothing, ErrLimit", n, len(b), e)
		}
	}
}

func TestPutDigest(t *testing.T) {
	d := digest()
	if b := octet.PutDigest(nil, d); string(b) != string(d[:]) {
		t.Errorf("P1.1: PutDigest(nil, d) is % x", b)
	}
	if b := octet.PutDigest([]byte("abc"), d); string(b) != "abc"+string(d[:]) {
		t.Errorf("P1.1: PutDigest(abc, d) is % x", b)
	}
	if b := octet.PutDigest(nil, api.Digest{}); string(b) != string(make([]byte, 32)) {
		t.Errorf("P1.1: PutDigest(nil, zeros) is % x", b)
	}
}

// puts are the three calls that encode, of things of different lengths.
func puts() []func(b []byte) []byte {
	return []func(b []byte) []byte{
		func(b []byte) []byte { l, _ := octet.PutCount(b, 5); return l },
		func(b []byte) []byte { l, _ := octet.PutCount(b, 2147483647); return l },
		func(b []byte) []byte { l, _ := octet.PutBytes(b, ""); return l },
		func(b []byte) []byte { l, _ := octet.PutBytes(b, "word"); return l },
		func(b []byte) []byte { return octet.PutDigest(b, digest()) },
	}
}

func TestPutLeavesWhatIsPassed(t *testing.T) {
	for i, put := range puts() {
		whole, prefix := roomyPrefix()
		before := bytes.Clone(whole)
		first := put(prefix)
		if !bytes.Equal(whole, before) {
			t.Fatalf("P1.1, R2: call %d overwrote what was passed: % x", i, whole)
		}
		told := bytes.Clone(first)
		second := put(prefix)
		for j := range second[:cap(second)] {
			second[:cap(second)][j] ^= 0xff
		}
		whole[0], whole[1] = 50, 51
		if !bytes.Equal(first, told) {
			t.Errorf("R2: call %d: its result shares memory with the argument or with another result", i)
		}
		for j := range first[:cap(first)] {
			first[:cap(first)][j] = 1
		}
		if whole[0] != 50 || whole[1] != 51 || !bytes.Equal(whole[2:], before[2:]) {
			t.Errorf("R2: call %d: its result shares memory with the argument", i)
		}
	}
}
