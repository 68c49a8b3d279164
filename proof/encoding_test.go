package proof_test

import (
	"bytes"
	"encoding/binary"
	"slices"
	"testing"

	"tabellion/api"
	"tabellion/proof"
)

// counts are numbers of siblings: those at which the count or the error changes, and some between.
var counts = []int{0, 1, 2, 5, 126, 127, 128, 129, 254, 255, 256}

// written is the encoding of x, by the chapter's words.
func written(x api.Proof) []byte {
	b := []byte{0}
	if x.Other {
		b = slices.Concat([]byte{1}, x.OtherPath[:], x.OtherValue[:])
	}
	b = binary.AppendUvarint(b, uint64(len(x.Siblings)))
	for _, s := range x.Siblings {
		b = append(b, s[:]...)
	}
	return b
}

// encodable returns proofs that have an encoding.
func encodable() []api.Proof {
	var list []api.Proof
	for _, n := range counts {
		s := digests(uint32(n)+101, n)
		list = append(list,
			api.Proof{Siblings: s},
			api.Proof{Siblings: s, Other: true},
			api.Proof{Siblings: s, Other: true, OtherPath: dice(102)()},
			api.Proof{Siblings: s, Other: true, OtherValue: dice(103)()},
			api.Proof{Siblings: s, Other: true, OtherPath: dice(104)(), OtherValue: dice(105)()},
			api.Proof{Siblings: make([]api.Digest, n)})
	}
	return list
}

// mustGet fails if Get(b) isn't x.
func mustGet(t *testing.T, b []byte, x api.Proof) {
	t.Helper()
	if y, e := proof.Get(b); !sameProof(x, y) || e != api.OK {
		t.Fatalf("P6.4: Get of %d bytes is %v, %d; want %v, OK", len(b), y, e, x)
	}
}

// mustNotGet fails if Get(b) isn't refused, or answers anything beside it.
func mustNotGet(t *testing.T, b []byte) {
	t.Helper()
	if y, e := proof.Get(b); !sameProof(y, api.Proof{}) || e != api.ErrProofForm {
		t.Fatalf("P6.4: Get of %d bytes, % x .., is %v, %d; want nothing, ErrProofForm", len(b), b[:min(len(b), 70)], y, e)
	}
}

func TestPut(t *testing.T) {
	for _, x := range encodable() {
		if b, e := proof.Put(x); !bytes.Equal(b, written(x)) || e != api.OK {
			t.Fatalf("P6.4: Put of %d siblings, Other %t, is % x, %d; want % x", len(x.Siblings), x.Other, b, e, written(x))
		}
	}
	if b, e := proof.Put(api.Proof{}); string(b) != "\x00\x00" || e != api.OK {
		t.Fatalf("P6.4: Put of no siblings is % x, %d", b, e)
	}
}

func TestPutIsRefused(t *testing.T) {
	var list []api.Proof
	for _, n := range []int{257, 258, 512, 4096, 4097} {
		list = append(list, api.Proof{Siblings: make([]api.Digest, n)}, api.Proof{Siblings: make([]api.Digest, n), Other: true, OtherPath: api.Digest{1}})
	}
	for _, n := range []int{0, 1, 256} {
		for _, d := range []api.Digest{{1}, {31: 1}, flipped(api.Digest{}, 0), dice(106)()} {
			s := make([]api.Digest, n)
			list = append(list, api.Proof{Siblings: s, OtherPath: d}, api.Proof{Siblings: s, OtherValue: d}, api.Proof{Siblings: s, OtherPath: d, OtherValue: d})
		}
	}
	for _, x := range list {
		if b, e := proof.Put(x); len(b) != 0 || e != api.ErrProofForm {
			t.Fatalf("P6.4: Put of %d siblings, %t %x %x, is %d bytes, %d; want nothing, ErrProofForm", len(x.Siblings), x.Other, x.OtherPath, x.OtherValue, len(b), e)
		}
	}
}

func TestGet(t *testing.T) {
	for _, x := range encodable() {
		mustGet(t, written(x), x)
	}
}

func TestGetOfTooFewBytesAndTooMany(t *testing.T) {
	for _, x := range encodable() {
		b := written(x)
		for n := range len(b) {
			if n < 100 || n > len(b)-40 || n%32 < 2 {
				mustNotGet(t, b[:n])
			}
		}
		for _, more := range []int{1, 2, 31, 32, 33, 64} {
			mustNotGet(t, append(bytes.Clone(b), make([]byte, more)...))
		}
	}
	mustNotGet(t, nil)
	mustNotGet(t, []byte{})
}

func TestGetOfOtherFirstBytes(t *testing.T) {
	for _, x := range []api.Proof{{}, {Siblings: digests(107, 3)}, {Other: true, Siblings: digests(107, 3)}} {
		b := written(x)
		for first := range 256 {
			if first > 1 {
				b[0] = byte(first)
				mustNotGet(t, b)
			}
		}
		// The first byte is a byte, whatever counts of two bytes there may be.
		rest := written(x)[1:]
		mustNotGet(t, append([]byte{128 + written(x)[0], 0}, rest...))
		mustNotGet(t, append([]byte{128 + written(x)[0], 1}, rest...))
	}
}

func TestGetOfOtherCounts(t *testing.T) {
	for _, head := range [][]byte{{0}, append([]byte{1}, make([]byte, 64)...)} {
		for _, x := range []struct {
			count string
			n     int
		}{
			{"\x80\x00", 0}, {"\x80\x80\x00", 0}, {"\x81\x00", 1}, {"\x83\x00", 3}, {"\x83\x80\x00", 3}, {"\xff\x00", 127}, {"\x80\x82\x00", 256}, // not the shortest
			{"\x81\x02", 257}, {"\x82\x02", 258}, {"\xac\x02", 300}, {"\x80\x20", 4096}, {"\x80\x04", 512}, // beyond 256
			{"\xff\xff\xff\xff\x07", 1}, {"\xff\xff\xff\xff\x0f", 1}, {"\x80\x80\x80\x80\x10", 0}, {"\xff\xff\xff\xff\xff\xff\xff\xff\xff\x01", 1}, {"\x80", 0}, {"\xff\xff", 0},
			{"\x02", 1}, {"\x02", 3}, {"\x00", 1}, {"\x80\x02", 255}, {"\x80\x02", 257}, // not as many
		} {
			mustNotGet(t, slices.Concat(head, []byte(x.count), make([]byte, 32*x.n)))
		}
		mustGet(t, slices.Concat(head, []byte("\x80\x02"), make([]byte, 32*256)), api.Proof{Other: head[0] == 1, Siblings: make([]api.Digest, 256)})
	}
}

// TestNothingHasTwoEncodings: whatever Get accepts is what Put returns.
func TestNothingHasTwoEncodings(t *testing.T) {
	accepted := 0
	try := func(b []byte) {
		x, e := proof.Get(b)
		if e != api.OK {
			mustNotGet(t, b)
			return
		}
		accepted++
		if again, f := proof.Put(x); !bytes.Equal(again, b) || f != api.OK {
			t.Fatalf("P6.4: % x is decoded, and encoded as % x, %d", b, again, f)
		}
	}
	for first := range 256 {
		try([]byte{byte(first)})
		for second := range 256 {
			try([]byte{byte(first), byte(second)})
			try([]byte{byte(first), byte(second), 0})
		}
	}
	for _, x := range encodable() {
		b := written(x)
		for i := range min(len(b), 80) {
			for _, bit := range []byte{1, 2, 64, 128, 255} {
				turned := bytes.Clone(b)
				turned[i] ^= bit
				try(turned)
			}
		}
	}
	if accepted < 100 {
		t.Fatalf("only %d byte strings were accepted", accepted)
	}
}

func TestPutAndGetKeepNothing(t *testing.T) {
	whole := digests(108, 20)
	old := slices.Clone(whole)
	x := api.Proof{Siblings: whole[:9], Other: true, OtherPath: whole[10], OtherValue: whole[11]}
	b, _ := proof.Put(x)
	want := bytes.Clone(b)
	if !slices.Equal(whole, old) {
		t.Fatalf("R2: Put changed what was handed in")
	}
	clear(whole)
	if !bytes.Equal(b, want) {
		t.Fatalf("R2: what Put returned changes with what was handed in")
	}
	copy(whole, old)
	again, _ := proof.Put(x)
	room := append(bytes.Clone(want), make([]byte, 400)...)
	y, _ := proof.Get(room[:len(want)]) // doesn't read what lies behind it
	z, _ := proof.Get(room[:len(want)])
	if !bytes.Equal(room, append(bytes.Clone(want), make([]byte, 400)...)) {
		t.Fatalf("R2: Get changed what was handed in")
	}
	clear(room)
	clear(b[:cap(b)])
	clear(z.Siblings[:cap(z.Siblings)])
	if !bytes.Equal(again, want) || !sameProof(y, x) {
		t.Fatalf("R2: results share memory with one another or with what was handed in")
	}
	if !slices.Equal(whole, old) {
		t.Fatalf("R2: results share memory with what was handed in")
	}
}
