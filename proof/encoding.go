package proof

import (
	"tabellion/api"
	"tabellion/octet"
)

// The first byte of an encoding.
const (
	withoutOther = 0
	withOther    = 1
)

// Put returns the encoding of x.
func Put(x api.Proof) ([]byte, api.Errno) {
	if !hasForm(x) {
		return nil, api.ErrProofForm
	}
	b := []byte{withoutOther}
	if x.Other {
		b = followed([]byte{withOther}, x.OtherPath, x.OtherValue)
	}
	b, _ = octet.PutCount(b, len(x.Siblings)) // so few have a count
	return followed(b, x.Siblings...), api.OK
}

// Get returns the proof that Put encodes as b.
func Get(b []byte) (api.Proof, api.Errno) {
	r := octet.New(b)
	x, ok := read(r)
	if !ok || r.Left() > 0 {
		return api.Proof{}, api.ErrProofForm
	}
	return x, api.OK
}

// read decodes a proof from the position of r on, and reports whether there is one.
func read(r *octet.Reader) (api.Proof, bool) {
	var x api.Proof
	first, e := r.Count() // the counts 0 and 1 are the bytes 0 and 1
	if e != api.OK || first > withOther {
		return x, false
	}
	if first == withOther {
		other, ok := readDigests(r, 2)
		if !ok {
			return x, false
		}
		x.Other, x.OtherPath, x.OtherValue = true, other[0], other[1]
	}
	n, e := r.Count()
	if e != api.OK || n > mostSiblings {
		return x, false
	}
	siblings, ok := readDigests(r, n)
	x.Siblings = siblings
	return x, ok
}

// readDigests decodes n digests, and reports whether there are as many.
func readDigests(r *octet.Reader, n int) ([]api.Digest, bool) {
	var list []api.Digest
	for range n {
		d, e := r.Digest()
		if e != api.OK {
			return nil, false
		}
		list = append(list, d)
	}
	return list, true
}
