package path_test

import (
	"bytes"
	"math"
	"slices"
	"testing"

	"tabellion/api"
	"tabellion/path"
)

// near returns the paths that differ from p in one of the edge bits or in two of them, p itself, and no path twice.
func near(p api.Digest) []api.Digest {
	list := []api.Digest{p}
	for i, first := range edgeBits {
		one := flipped(p, first)
		list = append(list, one)
		for _, second := range edgeBits[:i] {
			list = append(list, flipped(one, second))
		}
	}
	return list
}

func TestLessOfTheFirstBitThatDiffers(t *testing.T) {
	for _, p := range samples() {
		if path.Less(p, p) {
			t.Fatalf("P4.3: %x is less than itself", p)
		}
		for i := range 256 {
			zero, one := p, flipped(p, i)
			if written(p)[i] == '1' {
				zero, one = one, zero
			}
			mustPrecede(t, zero, one)
			for _, j := range edgeBits { // what follows doesn't count
				if j > i {
					mustPrecede(t, flipped(zero, j), one)
					mustPrecede(t, zero, flipped(one, j))
				}
			}
		}
	}
}

// mustPrecede fails if a isn't less than b, or b is less than a.
func mustPrecede(t *testing.T, a, b api.Digest) {
	t.Helper()
	if !path.Less(a, b) {
		t.Fatalf("P4.3: %x is not less than %x", a, b)
	}
	if path.Less(b, a) {
		t.Fatalf("P4.3: %x is less than %x", b, a)
	}
}

func TestLessIsTheOrderOfBytes(t *testing.T) {
	paths := samples()
	for _, p := range samples()[:9] {
		paths = append(paths, near(p)...)
	}
	pairs(paths, func(a, b api.Digest) {
		if got, want := path.Less(a, b), bytes.Compare(a[:], b[:]) < 0; got != want {
			t.Fatalf("P4.3: Less(%x, %x) is %t; want %t", a, b, got, want)
		}
	})
}

func TestPrefixesAreTheSameUpToCommon(t *testing.T) {
	mustFollow := func(a, b api.Digest) {
		common := path.Common(a, b)
		for n := range 257 {
			x, e := path.Prefix(a, n)
			y, f := path.Prefix(b, n)
			if e != api.OK || f != api.OK || (x == y) != (n <= common) {
				t.Fatalf("P4.4: the prefixes of %d bits of %x and %x, with %d in common, are %x and %x (%d, %d)", n, a, b, common, x, y, e, f)
			}
		}
	}
	pairs(samples(), mustFollow)
	for i := range 256 {
		mustFollow(dense(7), flipped(dense(7), i))
	}
}

func TestLessIsAStrictTotalOrder(t *testing.T) {
	paths := append(samples(), near(dense(99))[:60]...)
	pairs(paths, func(a, b api.Digest) {
		forth, back := path.Less(a, b), path.Less(b, a)
		if a == b && (forth || back) {
			t.Fatalf("P4.4: %x is less than itself", a)
		}
		if a != b && forth == back {
			t.Fatalf("P4.4: Less of %x and %x is %t either way", a, b, forth)
		}
	})
	for _, a := range paths {
		pairs(paths, func(b, c api.Digest) {
			if path.Less(a, b) && path.Less(b, c) && !path.Less(a, c) {
				t.Fatalf("P4.4: Less is not transitive for %x, %x and %x", a, b, c)
			}
		})
	}
}

func TestSortingByLess(t *testing.T) {
	paths := append(samples(), near(dense(3))...)
	want := slices.Clone(paths)
	slices.SortFunc(want, func(a, b api.Digest) int { return bytes.Compare(a[:], b[:]) })
	slices.SortFunc(paths, func(a, b api.Digest) int {
		if path.Less(a, b) {
			return -1
		}
		if path.Less(b, a) {
			return 1
		}
		return 0
	})
	if !slices.Equal(paths, want) {
		t.Fatalf("P4.4: sorting by Less is not sorting by bytes")
	}
}

// answers are what the calls return for two paths and a number.
type answers struct {
	bit, common                   int
	zero, one, bad, prefix        api.Digest
	bitE, zeroE, oneE, badE, preE api.Errno
	less, more                    bool
}

func ask(a, b api.Digest, i int) answers {
	var x answers
	x.bit, x.bitE = path.Bit(a, i)
	x.zero, x.zeroE = path.With(a, i, 0)
	x.one, x.oneE = path.With(a, i, 1)
	x.bad, x.badE = path.With(a, i, 2)
	x.prefix, x.preE = path.Prefix(a, i)
	x.common = path.Common(a, b)
	x.less, x.more = path.Less(a, b), path.Less(b, a)
	return x
}

func TestArgumentsStayAndAnswersRepeat(t *testing.T) {
	numbers := append([]int{-1, 256, 257, math.MaxInt, math.MinInt}, edgeBits...)
	pairs(samples(), func(a, b api.Digest) {
		oldA, oldB := written(a), written(b)
		for _, i := range numbers {
			first := ask(a, b, i)
			if written(a) != oldA || written(b) != oldB {
				t.Fatalf("R2: the calls with %d changed what was handed in", i)
			}
			if second := ask(a, b, i); first != second {
				t.Fatalf("R2: the calls with %d answer %v, and then %v", i, first, second)
			}
		}
	})
}

func TestAnswersAreNotShared(t *testing.T) {
	p := dense(5)
	whole, _ := path.Prefix(p, 256)
	same, _ := path.With(p, 0, int(written(p)[0]-'0'))
	whole[0] ^= 255
	same[31] ^= 255
	if p != dense(5) {
		t.Fatalf("R2: changing an answer changed what was handed in")
	}
	named := path.Of("u")
	named[0] ^= 255
	if path.Of("u") == named {
		t.Fatalf("R2: changing an answer changed a later one")
	}
}
