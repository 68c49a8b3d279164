package mac_test

import (
	"bytes"
	"crypto/hmac"
	"crypto/sha256"
	"encoding/hex"
	"testing"

	"tabellion/api"
	"tabellion/mac"
	"tabellion/sha"
)

// keyLengths are those at which the block of a key changes its form, and those beside them.
var keyLengths = []int{0, 1, 2, 31, 32, 33, 62, 63, 64, 65, 66, 127, 128, 129, 200, 65536}

// lengths are those of bytes at which the sum's padding changes, and those beside them.
var lengths = []int{0, 1, 2, 32, 54, 55, 56, 57, 62, 63, 64, 65, 118, 119, 120, 127, 128, 129, 200, 65537}

// message returns n bytes without a period that a block could hide.
func message(n int) []byte {
	b := make([]byte, n)
	x := uint32(n)
	for i := range b {
		x = x*1664525 + 1013904223
		b[i] = byte(x >> 24)
	}
	return b
}

// reference returns the code by the library's HMAC.
func reference(key, b []byte) api.Digest {
	h := hmac.New(sha256.New, key)
	h.Write(b)
	return api.Digest(h.Sum(nil))
}

// literal returns the code by the promise's words.
func literal(key, b []byte) api.Digest {
	if len(key) > 64 {
		sum := sha.Sum(key)
		key = sum[:]
	}
	inner, outer := bytes.Repeat([]byte{54}, 64), bytes.Repeat([]byte{92}, 64)
	for i, x := range key {
		inner[i] ^= x
		outer[i] ^= x
	}
	sum := sha.Sum(append(inner, b...))
	return sha.Sum(append(outer, sum[:]...))
}

func TestMacOfWhatIsKnown(t *testing.T) {
	ascending := make([]byte, 25)
	for i := range ascending {
		ascending[i] = byte(i + 1)
	}
	for _, x := range []struct {
		key, b []byte
		want   string
	}{
		{nil, nil, "b613679a0814d9ec772f95d778c35fc5ff1697c493715653c6c712144292c5ad"},
		{[]byte("Jefe"), []byte("what do ya want for nothing?"), "5bdcc146bf60754e6a042426089575c75a003f089d2739839dec58b964ec3843"},
		{bytes.Repeat([]byte{11}, 20), []byte("Hi There"), "b0344c61d8db38535ca8afceaf0bf12b881dc200c9833da726e9376c2e32cff7"},
		{bytes.Repeat([]byte{0xaa}, 20), bytes.Repeat([]byte{0xdd}, 50), "773ea91e36800e46854db8ebd09181a72959098b3ef8c122d9635514ced565fe"},
		{ascending, bytes.Repeat([]byte{0xcd}, 50), "82558a389a443c0ea4cc819899f2083a85f0faa3e578f8077a2e3ff46729665b"},
		{bytes.Repeat([]byte{0xaa}, 131), []byte("Test Using Larger Than Block-Size Key - Hash Key First"), "60e431591ee0b67f0d8a26aacbf5b77f8e0bc6213728c5140546040f0ee37f54"},
	} {
		d := mac.Mac(x.key, x.b)
		if got := hex.EncodeToString(d[:]); got != x.want {
			t.Errorf("P3.1: Mac(%x, %q) is %s; want %s", x.key, x.b, got, x.want)
		}
	}
}

func TestMacOfAllLengths(t *testing.T) {
	check := func(key, b []byte) {
		t.Helper()
		got := mac.Mac(key, b)
		if want := reference(key, b); got != want {
			t.Errorf("P3.1: Mac of a key of %d bytes and %d bytes is %x; want %x", len(key), len(b), got, want)
		}
		if want := literal(key, b); got != want {
			t.Errorf("P3.1: Mac of a key of %d bytes and %d bytes is %x; by the promise's words %x", len(key), len(b), got, want)
		}
	}
	for _, k := range keyLengths {
		for _, n := range lengths {
			check(message(k), message(n))
			check(bytes.Repeat([]byte{54}, k), make([]byte, n))
			check(bytes.Repeat([]byte{92}, k), bytes.Repeat([]byte{0xff}, n))
		}
	}
	for n := range 200 {
		check(message(n), message(n+1))
	}
	check(message(64), message(1000003))
}

func TestMacOfNil(t *testing.T) {
	if mac.Mac(nil, message(9)) != mac.Mac([]byte{}, message(9)) || mac.Mac(message(9), nil) != mac.Mac(message(9), []byte{}) {
		t.Errorf("P3.1: nil and no bytes have different codes")
	}
}

func TestMacTellsKeysAndBytesApart(t *testing.T) {
	seen := map[api.Digest]bool{}
	add := func(d api.Digest) {
		t.Helper()
		if seen[d] {
			t.Fatalf("P3.1: two codes are both %x", d)
		}
		seen[d] = true
	}
	whole := []byte("the key and the message")
	for cut := range len(whole) + 1 {
		add(mac.Mac(whole[:cut], whole[cut:]))
	}
	for i := range 64 { // every byte of a full block counts
		key := make([]byte, 64)
		key[i] = 1
		add(mac.Mac(key, whole))
	}
	for i := range 200 { // and every byte of a long key
		key := make([]byte, 200)
		key[i] = 1
		add(mac.Mac(key, whole))
	}
}

func TestSame(t *testing.T) {
	d := api.Digest(message(32))
	e := d
	if !mac.Same(d, e) || !mac.Same(api.Digest{}, api.Digest{}) {
		t.Errorf("P3.2: Same of equal digests is false")
	}
	one, other := mac.Mac([]byte("Jefe"), []byte("what do ya want for nothing?")), mac.Mac(bytes.Repeat([]byte{11}, 20), []byte("Hi There"))
	if mac.Same(one, other) || mac.Same(other, one) {
		t.Errorf("P3.2: Same of the examples is true")
	}
	if mac.Same(d, api.Digest{}) || mac.Same(api.Digest{}, d) {
		t.Errorf("P3.2: Same of a digest and of zeros is true")
	}
}

func TestSameOfOneByteThatDiffers(t *testing.T) {
	for i := range d32 {
		for bit := range 8 {
			a := d32
			a[i] ^= 1 << bit
			if mac.Same(a, d32) || mac.Same(d32, a) {
				t.Errorf("P3.2: Same is true, though bit %d of byte %d differs", bit, i)
			}
		}
		a := d32
		a[i] = ^a[i]
		if mac.Same(a, d32) || mac.Same(d32, a) {
			t.Errorf("P3.2: Same is true, though byte %d differs", i)
		}
	}
}

// TestSameOfTwoBytesThatDiffer has differences that a sum of them would let cancel out.
func TestSameOfTwoBytesThatDiffer(t *testing.T) {
	for i := range d32 {
		for j := range i {
			a := d32
			a[i] ^= 0x80
			a[j] ^= 0x80
			if mac.Same(a, d32) {
				t.Errorf("P3.2: Same is true, though bytes %d and %d differ", j, i)
			}
			b := d32
			b[i], b[j] = d32[j], d32[i]
			if mac.Same(b, d32) != (d32[i] == d32[j]) {
				t.Errorf("P3.2: Same is wrong where bytes %d and %d are exchanged", j, i)
			}
		}
	}
}

// d32 is a digest whose bytes all differ.
var d32 = distinct()

func distinct() api.Digest {
	var d api.Digest
	for i := range d {
		d[i] = byte(200 - 3*i)
	}
	return d
}

func TestLongKeys(t *testing.T) {
	for _, n := range []int{65, 66, 127, 128, 129, 200, 65536} {
		key := message(n)
		sum := sha.Sum(key)
		for _, m := range lengths {
			if mac.Mac(key, message(m)) != mac.Mac(sum[:], message(m)) {
				t.Errorf("P3.3: a key of %d bytes and its sum have different codes of %d bytes", n, m)
			}
		}
	}
}

func TestShortKeys(t *testing.T) {
	for n := range 65 {
		for padded := n; padded <= 64; padded++ {
			key := append(message(n), make([]byte, padded-n)...)
			if mac.Mac(key, message(20)) != mac.Mac(message(n), message(20)) {
				t.Errorf("P3.3: a key of %d bytes and the same padded to %d have different codes", n, padded)
			}
		}
		sum := sha.Sum(message(n))
		if mac.Mac(message(n), message(20)) == mac.Mac(sum[:], message(20)) {
			t.Errorf("P3.3: a key of %d bytes has the same effect as its sum", n)
		}
		beyond := append(message(n), make([]byte, 65-n)...)
		if mac.Mac(beyond, message(20)) == mac.Mac(message(n), message(20)) {
			t.Errorf("P3.3: a key of %d bytes has the same effect as the same padded to 65", n)
		}
	}
}

func TestMacLeavesItsArguments(t *testing.T) {
	for _, k := range keyLengths {
		for _, n := range lengths {
			key, b := message(k+100), message(n+100)
			keyBefore, before := bytes.Clone(key), bytes.Clone(b)
			first := mac.Mac(key[:k], b[:n])
			if !bytes.Equal(key, keyBefore) || !bytes.Equal(b, before) {
				t.Errorf("R2: Mac of a key of %d bytes and %d bytes changed what was passed, or what lies behind it", k, n)
			}
			if second := mac.Mac(key[:k], b[:n]); first != second {
				t.Errorf("R2: Mac of a key of %d bytes and %d bytes is %x, and then %x", k, n, first, second)
			}
		}
	}
	both := message(100) // the key and the bytes may be one list
	if mac.Mac(both, both) != reference(both, both) || mac.Mac(both[:64], both[32:]) != reference(both[:64], both[32:]) {
		t.Errorf("R2: Mac of a key and bytes that share memory is wrong")
	}
}
