// Package octet encodes counts, byte strings and digests in a unique way, and decodes them.
package octet

import (
	"iter"

	"tabellion/api"
)

// maxGroups is how many groups the greatest count has.
const maxGroups = 5

// more is what a group's byte has beside the group if another one follows.
const more = 128

// groups yields the groups of n, the least significant first, each with whether another one follows.
func groups(n int) iter.Seq2[byte, bool] {
	return func(yield func(byte, bool) bool) {
		rest := n // n itself stays, so that one may range over the groups again
		for ; rest >= more; rest /= more {
			if !yield(byte(rest%more), true) {
				return
			}
		}
		yield(byte(rest), false)
	}
}

// roomy returns a copy of b with room for n more bytes, so that appending never writes into the caller's memory.
func roomy(b []byte, n int) []byte {
	return append(make([]byte, 0, len(b)+n), b...)
}

// addCount appends the encoding of n, which is a count, to b itself.
func addCount(b []byte, n int) []byte {
	for group, follows := range groups(n) {
		if follows {
			group |= more
		}
		b = append(b, group)
	}
	return b
}

// PutCount returns b followed by the encoding of n.
func PutCount(b []byte, n int) ([]byte, api.Errno) {
	if n < 0 || n > api.MaxCount {
		return nil, api.ErrArg
	}
	return addCount(roomy(b, maxGroups), n), api.OK
}

// PutBytes returns b followed by the encoding of the length of s, and the bytes of s.
func PutBytes(b []byte, s string) ([]byte, api.Errno) {
	if len(s) > api.MaxBytes {
		return nil, api.ErrLimit
	}
	return append(addCount(roomy(b, maxGroups+len(s)), len(s)), s...), api.OK
}

// PutDigest returns b followed by the bytes of d.
func PutDigest(b []byte, d api.Digest) []byte {
	return append(roomy(b, len(d)), d[:]...)
}
