package sha_test

import (
	"bytes"
	"crypto/sha256"
	"testing"

	"tabellion/api"
	"tabellion/sha"
)

// mustBe fails if h isn't the hash of b.
func mustBe(t *testing.T, promise string, h *sha.Hash, b []byte) {
	t.Helper()
	if n := h.Len(); n != len(b) {
		t.Fatalf("%s: Len is %d; want %d", promise, n, len(b))
	}
	if got, want := h.Sum(), api.Digest(sha256.Sum256(b)); got != want {
		t.Fatalf("%s: Sum of %d bytes is %x; want %x", promise, len(b), got, want)
	}
}

// mustWrite fails if h refuses b.
func mustWrite(t *testing.T, h *sha.Hash, b []byte) {
	t.Helper()
	if e := h.Write(b); e != api.OK {
		t.Fatalf("P2.2: Write of %d bytes is %d; want OK", len(b), e)
	}
}

func TestNew(t *testing.T) {
	h := sha.New()
	if h == nil {
		t.Fatalf("P2.2: New is nil")
	}
	mustBe(t, "P2.2", h, nil)
	mustWrite(t, h, nil)
	mustWrite(t, h, []byte{})
	mustBe(t, "P2.2", h, nil)
}

func TestWriteAppends(t *testing.T) {
	h := sha.New()
	mustWrite(t, h, []byte("ab"))
	mustBe(t, "P2.2", h, []byte("ab"))
	mustWrite(t, h, []byte("c"))
	mustBe(t, "P2.2", h, []byte("abc"))
	if h.Sum() != sha.Sum([]byte("abc")) {
		t.Errorf("P2.2: Sum of ab and c is %x", h.Sum())
	}
	for _, n := range edges {
		h := sha.New()
		mustWrite(t, h, message(n))
		mustBe(t, "P2.2", h, message(n))
	}
}

func TestSumIsRepeated(t *testing.T) {
	for n := range 200 {
		h := sha.New()
		mustWrite(t, h, message(n))
		for range 3 {
			mustBe(t, "P2.2", h, message(n))
		}
	}
}

func TestNilHash(t *testing.T) {
	var h *sha.Hash
	for _, b := range [][]byte{nil, {}, {1}, message(64), message(200)} {
		if e := h.Write(b); e != api.ErrNil {
			t.Errorf("P2.2: Write of %d bytes to a nil hash is %d; want ErrNil", len(b), e)
		}
		if d := h.Sum(); d != (api.Digest{}) {
			t.Errorf("P2.2: Sum of a nil hash is %x; want zeros", d)
		}
		if n := h.Len(); n != 0 {
			t.Errorf("P2.2: Len of a nil hash is %d; want 0", n)
		}
	}
}

// partings calls f with each list of four of the parts' lengths.
func partings(f func(lengths [4]int)) {
	lengths := []int{0, 1, 55, 56, 63, 64, 65, 130}
	n := len(lengths)
	for i := range n * n * n * n {
		f([4]int{lengths[i%n], lengths[i/n%n], lengths[i/n/n%n], lengths[i/n/n/n]})
	}
}

func TestPartsDoNotMatter(t *testing.T) {
	partings(func(lengths [4]int) {
		whole := message(lengths[0] + lengths[1] + lengths[2] + lengths[3])
		summed, quiet := sha.New(), sha.New()
		at := 0
		for _, n := range lengths {
			mustWrite(t, summed, whole[at:at+n])
			mustWrite(t, quiet, whole[at:at+n])
			at += n
			mustBe(t, "P2.3", summed, whole[:at])
		}
		mustBe(t, "P2.3", quiet, whole)
	})
}

func TestCutsDoNotMatter(t *testing.T) {
	for n := range 200 {
		whole := message(n)
		want := sha.Sum(whole)
		for cut := range n + 1 {
			h := sha.New()
			mustWrite(t, h, whole[:cut])
			mustWrite(t, h, whole[cut:])
			if h.Sum() != want || h.Len() != n {
				t.Fatalf("P2.3: Sum of %d and %d bytes is %x; want %x", cut, n-cut, h.Sum(), want)
			}
		}
	}
	long, bytewise := message(1000), sha.New()
	for i := range long {
		mustWrite(t, bytewise, long[i:i+1])
		mustBe(t, "P2.3", bytewise, long[:i+1])
	}
}

func TestWriteLeavesAndForgetsItsArgument(t *testing.T) {
	for _, n := range edges {
		whole := message(n + 100)
		before := bytes.Clone(whole)
		h := sha.New()
		mustWrite(t, h, whole[:n])
		h.Sum()
		if !bytes.Equal(whole, before) {
			t.Fatalf("R2: Write of %d bytes changed what was passed, or what lies behind it", n)
		}
		for i := range whole {
			whole[i] ^= 0x55
		}
		mustBe(t, "R2", h, before[:n])
		mustWrite(t, h, before[n:])
		mustBe(t, "R2", h, before)
	}
}

func TestHashesDoNotAffectEachOther(t *testing.T) {
	first, second, idle := sha.New(), sha.New(), sha.New()
	var a, b []byte
	for i, n := range edges {
		mustWrite(t, first, message(n))
		a = append(a, message(n)...)
		mustWrite(t, second, message(i))
		b = append(b, message(i)...)
		mustBe(t, "R3", first, a)
		mustBe(t, "R3", second, b)
		sha.Sum(a)
		mustBe(t, "R3", idle, nil)
	}
	mustBe(t, "R3", sha.New(), nil)
}
