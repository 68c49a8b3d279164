package smt_test

import (
	"bytes"
	"encoding/hex"
	"slices"
	"testing"

	"tabellion/api"
	"tabellion/sha"
	"tabellion/smt"
)

func TestShort(t *testing.T) {
	long := make([]byte, 70000)
	for i := range long {
		long[i] = byte(i * i >> 3)
	}
	for _, n := range []int{0, 1, 2, 31, 32, 33, 55, 56, 64, 65, 66, 1000, 70000} {
		for _, w := range widths() {
			got, e := smt.Short(w, long[:n])
			if want := short(w, long[:n]); got != want || e != api.OK {
				t.Fatalf("P5.1: Short(%d, %d bytes) is %x, %d; want %x, OK", w, n, got, e, want)
			}
		}
	}
}

func TestShortOfWhatIsKnown(t *testing.T) {
	for w, want := range map[int]string{
		0:  "0000000000000000000000000000000000000000000000000000000000000000",
		1:  "ba00000000000000000000000000000000000000000000000000000000000000",
		31: "ba7816bf8f01cfea414140de5dae2223b00361a396177a9cb410ff61f2001500",
		32: "ba7816bf8f01cfea414140de5dae2223b00361a396177a9cb410ff61f20015ad",
	} {
		d, e := smt.Short(w, []byte("abc"))
		if got := hex.EncodeToString(d[:]); got != want || e != api.OK {
			t.Fatalf("P5.1: Short(%d, abc) is %s, %d; want %s, OK", w, got, e, want)
		}
	}
	none, _ := smt.Short(32, nil)
	empty, _ := smt.Short(32, []byte{})
	if none != sha.Sum(nil) || empty != none {
		t.Fatalf("P5.1: Short of no bytes is %x and %x", none, empty)
	}
}

func TestEmptyLeafAndNode(t *testing.T) {
	next := dice(1)
	for _, w := range widths() {
		if got, want := smt.Empty(w), short(w, []byte{2}); got != want {
			t.Fatalf("P5.1: Empty(%d) is %x; want %x", w, got, want)
		}
		for range 20 {
			a, b := next(), next()
			if got, want := smt.Leaf(w, api.Leaf{Path: a, Value: b}), short(w, []byte{0}, a[:], b[:]); got != want {
				t.Fatalf("P5.1: Leaf(%d, %x, %x) is %x; want %x", w, a, b, got, want)
			}
			if got, want := smt.Node(w, a, b), short(w, []byte{1}, a[:], b[:]); got != want {
				t.Fatalf("P5.1: Node(%d, %x, %x) is %x; want %x", w, a, b, got, want)
			}
		}
	}
	if d := smt.Leaf(32, api.Leaf{}); d != short(32, make([]byte, 65)) {
		t.Fatalf("P5.1: Leaf of zeros is %x", d)
	}
}

func TestWidthsAreRefused(t *testing.T) {
	some := far(1, 3)
	for _, w := range refusedWidths {
		for _, b := range [][]byte{nil, {}, {2}, make([]byte, 1000)} {
			if d, e := smt.Short(w, b); d != (api.Digest{}) || e != api.ErrArg {
				t.Fatalf("P5.1: Short(%d, %d bytes) is %x, %d; want zeros, ErrArg", w, len(b), d, e)
			}
		}
		for _, d := range []api.Digest{smt.Empty(w), smt.Leaf(w, some[0]), smt.Leaf(w, api.Leaf{}), smt.Node(w, some[1].Path, some[2].Path)} {
			if d != (api.Digest{}) {
				t.Fatalf("P5.1: a digest of width %d is %x; want zeros", w, d)
			}
		}
		for _, l := range [][]api.Leaf{nil, {}, some, {some[0], some[0]}, make([]api.Leaf, 4097)} { // the width is told first
			if d, e := smt.Root(w, l); d != (api.Digest{}) || e != api.ErrArg {
				t.Fatalf("P5.2: Root(%d, %d leaves) is %x, %d; want zeros, ErrArg", w, len(l), d, e)
			}
		}
		if x, e := smt.New(w); x != nil || e != api.ErrArg {
			t.Fatalf("P5.3: New(%d) is %v, %d; want nil, ErrArg", w, x, e)
		}
	}
}

func TestRootOfTheExamples(t *testing.T) {
	a := api.Leaf{Value: api.Digest{5}}
	b := api.Leaf{Path: api.Digest{128}, Value: api.Digest{6}}
	both := smt.Node(32, smt.Leaf(32, a), smt.Leaf(32, b))
	for i, x := range []struct {
		w    int
		l    []api.Leaf
		want api.Digest
		e    api.Errno
	}{
		{32, nil, smt.Empty(32), api.OK},
		{32, []api.Leaf{a}, smt.Leaf(32, a), api.OK},
		{32, []api.Leaf{a, b}, both, api.OK},
		{32, []api.Leaf{b, a}, both, api.OK},
		{32, []api.Leaf{a, a}, api.Digest{}, api.ErrSmtTwice},
		{33, nil, api.Digest{}, api.ErrArg},
	} {
		if got, e := smt.Root(x.w, x.l); got != x.want || e != x.e {
			t.Fatalf("P5.2: example %d is %x, %d; want %x, %d", i, got, e, x.want, x.e)
		}
	}
}

func TestRootOfAllSets(t *testing.T) {
	for _, l := range sets() {
		for _, w := range edgeWidths {
			mustHaveRoot(t, w, l)
		}
	}
	for _, w := range widths() {
		mustHaveRoot(t, w, far(2, 7))
		mustHaveRoot(t, w, partners(2, 6))
	}
	for n := range 70 {
		mustHaveRoot(t, 32, far(uint32(n), n))
	}
}

// TestRootOfTwoLeaves computes the root from the bit at which the paths part up to depth 0.
func TestRootOfTwoLeaves(t *testing.T) {
	next := dice(5)
	for i := range 256 {
		a := api.Leaf{Path: next(), Value: next()}
		b := api.Leaf{Path: flipped(a.Path, i), Value: next()}
		left, right := smt.Leaf(32, a), smt.Leaf(32, b)
		if isOne(a.Path, i) {
			left, right = right, left
		}
		want := smt.Node(32, left, right)
		for depth := i - 1; depth >= 0; depth-- {
			if isOne(a.Path, depth) {
				want = smt.Node(32, smt.Empty(32), want)
			} else {
				want = smt.Node(32, want, smt.Empty(32))
			}
		}
		for _, l := range [][]api.Leaf{{a, b}, {b, a}} {
			if got, e := smt.Root(32, l); got != want || e != api.OK {
				t.Fatalf("P5.2: Root of two leaves that part at bit %d is %x, %d; want %x, OK", i, got, e, want)
			}
		}
	}
}

func TestRootOfTheMostLeaves(t *testing.T) {
	mustHaveRoot(t, 32, far(21, 4096))
	mustHaveRoot(t, 32, adjacent(22, 4096))
	mustHaveRoot(t, 32, partners(23, 4096))
	mustHaveRoot(t, 0, far(24, 4096))
}

func TestRootIsRefused(t *testing.T) {
	mustRefuse := func(l []api.Leaf, want api.Errno) {
		t.Helper()
		for _, w := range edgeWidths {
			if d, e := smt.Root(w, l); d != (api.Digest{}) || e != want {
				t.Fatalf("P5.2: Root(%d, %d leaves) is %x, %d; want zeros, %d", w, len(l), d, e, want)
			}
		}
	}
	mustRefuse(far(1, 4097), api.ErrLimit)
	mustRefuse(far(2, 10000), api.ErrLimit)
	mustRefuse(make([]api.Leaf, 4097), api.ErrLimit) // how many there are is told first
	mustRefuse(make([]api.Leaf, 4096), api.ErrSmtTwice)
	mustRefuse(make([]api.Leaf, 2), api.ErrSmtTwice)
	for _, n := range []int{1, 2, 3, 100, 4095} {
		l := far(uint32(n), n)
		for _, i := range []int{0, n / 2, n - 1} { // next to one another and far apart, with like and with unlike values
			twin := l[i]
			mustRefuse(append(slices.Clone(l), twin), api.ErrSmtTwice)
			mustRefuse(append([]api.Leaf{twin}, l...), api.ErrSmtTwice)
			twin.Value[31] ^= 1
			mustRefuse(append(slices.Clone(l), twin), api.ErrSmtTwice)
			mustRefuse(append([]api.Leaf{twin}, l...), api.ErrSmtTwice)
		}
	}
}

func TestArgumentsStay(t *testing.T) {
	b := []byte("what is hashed, and what lies behind it")
	oldBytes := bytes.Clone(b)
	for _, l := range append(sets(), far(1, 4097), make([]api.Leaf, 3)) {
		l = append(slices.Clone(l), far(99, 5)...) // of which the last five aren't handed in
		old := slices.Clone(l)
		for _, w := range []int{-1, 0, 31, 32, 33} {
			first, e := smt.Short(w, b[:14])
			second, f := smt.Short(w, b[:14])
			if first != second || e != f || !bytes.Equal(b, oldBytes) {
				t.Fatalf("R2: Short(%d) is %x, %d, and then %x, %d, or changed what was handed in", w, first, e, second, f)
			}
			first, e = smt.Root(w, l[:len(l)-5])
			second, f = smt.Root(w, l[:len(l)-5])
			if first != second || e != f || !slices.Equal(l, old) {
				t.Fatalf("R2: Root(%d, %d leaves) is %x, %d, and then %x, %d, or changed what was handed in", w, len(l)-5, first, e, second, f)
			}
		}
	}
}
