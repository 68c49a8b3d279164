package sha_test

import (
	"bytes"
	"crypto/sha256"
	"encoding/hex"
	"testing"

	"tabellion/api"
	"tabellion/sha"
)

// told are messages whose sums are known from elsewhere.
var told = []struct {
	b   string
	sum string
}{
	{"", "e3b0c44298fc1c149afbf4c8996fb92427ae41e4649b934ca495991b7852b855"},
	{"abc", "ba7816bf8f01cfea414140de5dae2223b00361a396177a9cb410ff61f20015ad"},
	{"\xbd", "68325720aabd7c82f30f554b313d0570c95accbb7dc4b5aae11204c08ffe732b"},
	{"abcdbcdecdefdefgefghfghighijhijkijkljklmklmnlmnomnopnopq", "248d6a61d20638b8e5c026930c3e6039a33ce45964ff2167f6ecedd419db06c1"},
	{"abcdefghbcdefghicdefghijdefghijkefghijklfghijklmghijklmnhijklmnoijklmnopjklmnopqklmnopqrlmnopqrsmnopqrstnopqrstu", "cf5b16a778af8380036ce59e7b0492370b249b11e8f07a51afac45037afee9d1"},
}

// edges are the lengths at which padding changes, and those beside them.
var edges = []int{0, 1, 2, 54, 55, 56, 57, 62, 63, 64, 65, 118, 119, 120, 121, 127, 128, 129, 183, 184, 192, 65536}

// message returns n bytes without a period that a block could hide.
func message(n int) []byte {
	b := make([]byte, n)
	x := uint32(n)
	for i := range b {
		x = x*1664525 + 1013904223
		b[i] = byte(x >> 24)
	}
	return b
}

func TestSumOfWhatIsKnown(t *testing.T) {
	for _, x := range told {
		d := sha.Sum([]byte(x.b))
		if got := hex.EncodeToString(d[:]); got != x.sum {
			t.Errorf("P2.1: Sum(%q) is %s; want %s", x.b, got, x.sum)
		}
	}
	if sha.Sum(nil) != sha.Sum([]byte{}) {
		t.Errorf("P2.1: the sums of nil and of no bytes differ")
	}
}

func TestSumOfAllLengths(t *testing.T) {
	check := func(b []byte) {
		if got, want := sha.Sum(b), api.Digest(sha256.Sum256(b)); got != want {
			t.Errorf("P2.1: Sum of %d bytes is %x; want %x", len(b), got, want)
		}
	}
	for n := range 400 {
		check(message(n))
	}
	for _, n := range edges {
		check(message(n))
		check(make([]byte, n))
		check(bytes.Repeat([]byte{0xff}, n))
		check(bytes.Repeat([]byte{0x80}, n))
	}
	check(message(1000003))
}

// TestSumOfManyBits has a number of bits that 32 bits don't hold.
func TestSumOfManyBits(t *testing.T) {
	part := message(1 << 20)
	h, want := sha.New(), sha256.New()
	for range 1 << 9 {
		h.Write(part)
		want.Write(part)
	}
	h.Write(part[:3])
	want.Write(part[:3])
	if got := h.Sum(); !bytes.Equal(got[:], want.Sum(nil)) || h.Len() != 1<<29+3 {
		t.Errorf("P2.1: the sum of 2^29 + 3 bytes is %x; want %x (Len %d)", got, want.Sum(nil), h.Len())
	}
}

func TestSumLeavesItsArgument(t *testing.T) {
	for _, n := range edges {
		whole := message(n + 100)
		before := bytes.Clone(whole)
		first := sha.Sum(whole[:n])
		if !bytes.Equal(whole, before) {
			t.Errorf("R2: Sum of %d bytes changed what was passed, or what lies behind it", n)
		}
		if second := sha.Sum(whole[:n]); first != second || first != api.Digest(sha256.Sum256(before[:n])) {
			t.Errorf("R2: Sum of %d bytes is %x, and then %x", n, first, second)
		}
	}
}
