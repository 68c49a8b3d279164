package proof

import (
	"iter"
	"slices"

	"tabellion/api"
	"tabellion/path"
	"tabellion/smt"
)

// What is hashed begins with one of these, as the chapter on sparse Merkle trees says.
const (
	leafTag    byte = 0
	innerTag   byte = 1
	nothingTag byte = 2
)

// followed returns b, which is this package's own memory, followed by the bytes of the digests.
func followed(b []byte, digests ...api.Digest) []byte {
	b = slices.Grow(b, len(digests)*len(api.Digest{}))
	for _, d := range digests {
		b = append(b, d[:]...)
	}
	return b
}

// start returns what is hashed at the end of the chain of x.
func start(p api.Digest, c api.Claim, x api.Proof) []byte {
	switch {
	case c.Present:
		return followed([]byte{leafTag}, p, c.Value)
	case x.Other:
		return followed([]byte{leafTag}, x.OtherPath, x.OtherValue)
	}
	return []byte{nothingTag}
}

// inner returns what is hashed for the inner node at index i, of whose two digests one is on the path and one beside it.
func inner(p api.Digest, i int, on, beside api.Digest) []byte {
	if bitIs1(p, i) {
		return followed([]byte{innerTag}, beside, on)
	}
	return followed([]byte{innerTag}, on, beside)
}

// bitIs1 reports whether bit i of p, which there is, is 1.
func bitIs1(p api.Digest, i int) bool {
	bit, _ := path.Bit(p, i)
	return bit == 1
}

// chain yields the digests of the chain of x, from the last one to the one at index 0, each behind what is hashed for it.
func chain(w int, p api.Digest, c api.Claim, x api.Proof) iter.Seq2[[]byte, api.Digest] {
	return func(yield func([]byte, api.Digest) bool) {
		b := start(p, c, x)
		for i := len(x.Siblings) - 1; ; i-- {
			d, _ := smt.Short(w, b) // w is a width here
			if !yield(b, d) || i < 0 {
				return
			}
			b = inner(p, i, d, x.Siblings[i])
		}
	}
}

// rootOf returns the root of x.
func rootOf(w int, p api.Digest, c api.Claim, x api.Proof) api.Digest {
	var root api.Digest
	for _, d := range chain(w, p, c, x) {
		root = d
	}
	return root
}

// hashed returns what is hashed for x, that of index 0 first.
func hashed(w int, p api.Digest, c api.Claim, x api.Proof) [][]byte {
	var list [][]byte
	for b := range chain(w, p, c, x) {
		list = append(list, b)
	}
	slices.Reverse(list)
	return list
}
