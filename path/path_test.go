package path_test

import (
	"crypto/sha256"
	"encoding/hex"
	"math"
	"strings"
	"testing"

	"tabellion/api"
	"tabellion/path"
	"tabellion/sha"
)

// refusedBits are numbers that no bit has.
var refusedBits = []int{-1, -2, -8, -64, -255, -256, 256, 257, 264, 511, 512, 1 << 20, math.MaxInt32, math.MinInt32, math.MaxInt, math.MinInt, math.MinInt + 1}

// edgeBits are bits at the ends of bytes, of words and of the path, and those beside them.
var edgeBits = []int{0, 1, 6, 7, 8, 9, 15, 16, 62, 63, 64, 65, 127, 128, 191, 192, 193, 248, 254, 255}

// dense returns a path whose bits have no period that a byte or a word could hide.
func dense(seed uint32) api.Digest {
	var p api.Digest
	for i := range p {
		seed = seed*1664525 + 1013904223
		p[i] = byte(seed >> 24)
	}
	return p
}

// filled returns a path of bytes b.
func filled(b byte) api.Digest {
	var p api.Digest
	for i := range p {
		p[i] = b
	}
	return p
}

// samples are paths of many kinds, no two the same.
func samples() []api.Digest {
	list := []api.Digest{{}, filled(255), filled(0x55), filled(0xaa), {128}, {129}, {129, 7}, {31: 1}}
	for seed := range uint32(20) {
		list = append(list, dense(seed))
	}
	return list
}

// written returns the path as 256 characters 0 and 1, by the document's words.
func written(p api.Digest) string {
	values := []byte{128, 64, 32, 16, 8, 4, 2, 1}
	var s strings.Builder
	for i := range 256 {
		if p[i/8]&values[i%8] != 0 {
			s.WriteByte('1')
		} else {
			s.WriteByte('0')
		}
	}
	return s.String()
}

// flipped returns p with bit i changed, by the document's words.
func flipped(p api.Digest, i int) api.Digest {
	p[i/8] ^= []byte{128, 64, 32, 16, 8, 4, 2, 1}[i%8]
	return p
}

func TestOfWhatIsKnown(t *testing.T) {
	for name, want := range map[string]string{
		"":    "e3b0c44298fc1c149afbf4c8996fb92427ae41e4649b934ca495991b7852b855",
		"abc": "ba7816bf8f01cfea414140de5dae2223b00361a396177a9cb410ff61f20015ad",
	} {
		p := path.Of(name)
		if got := hex.EncodeToString(p[:]); got != want {
			t.Fatalf("P4.1: Of(%q) is %s; want %s", name, got, want)
		}
	}
}

func TestOfAnyName(t *testing.T) {
	for _, name := range []string{"", "u", "U", " u", "u\x00", "\x00", "\xff\xfe", "\u00e9", "e\u0301", strings.Repeat("n", 32), strings.Repeat("n", 33), strings.Repeat("n", 1000003)} {
		p := path.Of(name)
		if want := api.Digest(sha256.Sum256([]byte(name))); p != want {
			t.Fatalf("P4.1: Of a name of %d bytes is %x; want %x", len(name), p, want)
		}
		if p != sha.Sum([]byte(name)) {
			t.Fatalf("P4.1: Of a name of %d bytes is not its sum", len(name))
		}
	}
}

func TestBitOfTheExamples(t *testing.T) {
	p := api.Digest{128}
	for _, x := range []struct {
		i, want int
		e       api.Errno
	}{{0, 1, api.OK}, {1, 0, api.OK}, {256, 0, api.ErrPathBit}} {
		if got, e := path.Bit(p, x.i); got != x.want || e != x.e {
			t.Fatalf("P4.1: Bit(%x, %d) is %d, %d; want %d, %d", p, x.i, got, e, x.want, x.e)
		}
	}
}

func TestBitOfAllNumbers(t *testing.T) {
	for _, p := range samples() {
		want := written(p)
		for i := range 256 {
			if got, e := path.Bit(p, i); got != int(want[i]-'0') || e != api.OK {
				t.Fatalf("P4.1: Bit(%x, %d) is %d, %d; want %c", p, i, got, e, want[i])
			}
		}
	}
	for i := range 256 { // a path in which only one bit is 1
		one := flipped(api.Digest{}, i)
		for j := range 256 {
			got, e := path.Bit(one, j)
			if (got == 1) != (i == j) || e != api.OK {
				t.Fatalf("P4.1: Bit(%x, %d) is %d, %d", one, j, got, e)
			}
		}
	}
}

func TestBitIsRefused(t *testing.T) {
	for _, p := range samples() {
		for _, i := range refusedBits {
			if got, e := path.Bit(p, i); got != 0 || e != api.ErrPathBit {
				t.Fatalf("P4.1: Bit(%x, %d) is %d, %d; want 0, ErrPathBit", p, i, got, e)
			}
		}
	}
}

func TestWith(t *testing.T) {
	if p, e := path.With(api.Digest{128}, 7, 1); p != (api.Digest{129}) || e != api.OK {
		t.Fatalf("P4.1: With of bit 7 is %x, %d", p, e)
	}
	if p, e := path.With(api.Digest{128}, 0, 0); p != (api.Digest{}) || e != api.OK {
		t.Fatalf("P4.1: With of bit 0 is %x, %d", p, e)
	}
	for _, p := range samples() {
		old := written(p)
		for i := range 256 {
			for bit, char := range []string{"0", "1"} {
				got, e := path.With(p, i, bit)
				if want := old[:i] + char + old[i+1:]; written(got) != want || e != api.OK {
					t.Fatalf("P4.1: With(%x, %d, %d) is %x, %d", p, i, bit, got, e)
				}
				if b, e := path.Bit(got, i); b != bit || e != api.OK {
					t.Fatalf("P4.1: bit %d, replaced by %d, is %d, %d", i, bit, b, e)
				}
			}
		}
	}
}

func TestWithIsRefused(t *testing.T) {
	refused := []int{-1, 2, 3, 128, 255, 256, 257, -255, -256, math.MaxInt, math.MinInt}
	mustRefuse := func(p api.Digest, i, bit int, want api.Errno) {
		t.Helper()
		if got, e := path.With(p, i, bit); got != (api.Digest{}) || e != want {
			t.Fatalf("P4.1: With(%x, %d, %d) is %x, %d; want zeros, %d", p, i, bit, got, e, want)
		}
	}
	for _, p := range samples() {
		for i := range 256 {
			for _, bit := range refused {
				mustRefuse(p, i, bit, api.ErrArg)
			}
		}
		for _, i := range refusedBits {
			mustRefuse(p, i, 0, api.ErrPathBit)
			mustRefuse(p, i, 1, api.ErrPathBit)
			for _, bit := range refused { // the number is told first
				mustRefuse(p, i, bit, api.ErrPathBit)
			}
		}
	}
}

func TestPrefix(t *testing.T) {
	if p, e := path.Prefix(api.Digest{129}, 1); p != (api.Digest{128}) || e != api.OK {
		t.Fatalf("P4.2: Prefix of 1 bit is %x, %d", p, e)
	}
	for _, p := range samples() {
		old := written(p)
		for n := range 257 {
			got, e := path.Prefix(p, n)
			if want := old[:n] + strings.Repeat("0", 256-n); written(got) != want || e != api.OK {
				t.Fatalf("P4.2: Prefix(%x, %d) is %x, %d", p, n, got, e)
			}
		}
		if got, _ := path.Prefix(p, 0); got != (api.Digest{}) {
			t.Fatalf("P4.2: Prefix(%x, 0) is %x", p, got)
		}
		if got, _ := path.Prefix(p, 256); got != p {
			t.Fatalf("P4.2: Prefix(%x, 256) is %x", p, got)
		}
	}
}

func TestPrefixIsRefused(t *testing.T) {
	for _, p := range samples() {
		for _, n := range refusedBits {
			if n == 256 { // no bit, but a length
				continue
			}
			if got, e := path.Prefix(p, n); got != (api.Digest{}) || e != api.ErrPathBit {
				t.Fatalf("P4.2: Prefix(%x, %d) is %x, %d; want zeros, ErrPathBit", p, n, got, e)
			}
		}
	}
}

// mustShare fails if a and b don't have n bits in common.
func mustShare(t *testing.T, a, b api.Digest, n int) {
	t.Helper()
	if got := path.Common(a, b); got != n {
		t.Fatalf("P4.2: Common(%x, %x) is %d; want %d", a, b, got, n)
	}
	if got := path.Common(b, a); got != n {
		t.Fatalf("P4.2: Common(%x, %x) is %d; want %d", b, a, got, n)
	}
}

func TestCommonOfTheExamples(t *testing.T) {
	mustShare(t, api.Digest{128}, api.Digest{129}, 7)
	mustShare(t, api.Digest{}, filled(255), 0)
	mustShare(t, path.Of("abc"), path.Of("abc"), 256)
}

func TestCommonOfAllLengths(t *testing.T) {
	for _, p := range samples() {
		mustShare(t, p, p, 256)
		for i := range 256 {
			other := flipped(p, i)
			mustShare(t, p, other, i)
			for _, j := range edgeBits { // only the first bit that differs counts
				if j > i {
					mustShare(t, p, flipped(other, j), i)
				}
			}
			if i < 255 {
				tail := dense(uint32(1000 + i))
				mixed, e := path.Prefix(other, i+1)
				for k := range tail {
					rest, _ := path.Prefix(tail, i+1)
					mixed[k] |= tail[k] ^ rest[k]
				}
				if e != api.OK {
					t.Fatalf("P4.2: Prefix of %d bits is refused: %d", i+1, e)
				}
				mustShare(t, p, mixed, i)
			}
		}
	}
}

// pairs calls f with each pair of the paths.
func pairs(paths []api.Digest, f func(a, b api.Digest)) {
	for _, a := range paths {
		for _, b := range paths {
			f(a, b)
		}
	}
}

func TestCommonByEachBit(t *testing.T) {
	pairs(samples(), func(a, b api.Digest) {
		x, y, n := written(a), written(b), 0
		for n < 256 && x[n] == y[n] {
			n++
		}
		mustShare(t, a, b, n)
	})
}
