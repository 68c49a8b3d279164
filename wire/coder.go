package wire

import (
	"tabellion/api"
	"tabellion/octet"
)

// coder either encodes the fields that are passed to it or sets them to what it decodes, so that the order of the fields is told once for both.
type coder struct {
	in  *octet.Reader // what is decoded; nil if fields are encoded
	out []byte        // what was encoded
}

// put returns the encoding of x, which has these fields.
func put[T any](x T, fields func(*coder, *T)) ([]byte, api.Errno) {
	var c coder
	if e := aborted(func() { fields(&c, &x) }); e != api.OK {
		return nil, e
	}
	return c.out, api.OK
}

// get returns what has these fields and b as its encoding.
func get[T any](b []byte, fields func(*coder, *T)) (T, api.Errno) {
	var x, none T
	c := coder{in: octet.New(b)}
	e := aborted(func() { fields(&c, &x) })
	if e != api.OK || c.in.Left() > 0 {
		return none, api.ErrWireForm
	}
	return x, api.OK
}

// aborted calls f and returns the error by which it was aborted; OK if it came to its end.
func aborted(f func()) (e api.Errno) {
	defer func() {
		if cause := recover(); cause != nil {
			e = cause.(api.Errno) // must alone panics
		}
	}()
	f()
	return api.OK
}

// must aborts if e is an error: after a field that is refused, no other one matters.
func must(e api.Errno) {
	if e != api.OK {
		panic(e)
	}
}

// add appends b, the encoding of a field, unless e is an error.
func (c *coder) add(b []byte, e api.Errno) {
	must(e)
	c.out = append(c.out, b...)
}

// number encodes or decodes n.
func number[N ~int](c *coder, n *N) {
	if c.in == nil {
		c.add(octet.PutCount(nil, int(*n)))
		return
	}
	m, e := c.in.Count()
	must(e)
	*n = N(m)
}

// text encodes or decodes s.
func text(c *coder, s *string) {
	if c.in == nil {
		c.add(octet.PutBytes(nil, *s))
		return
	}
	t, e := c.in.Bytes()
	must(e)
	*s = t
}

// digest encodes or decodes d.
func digest(c *coder, d *api.Digest) {
	if c.in == nil {
		c.add(octet.PutDigest(nil, *d), api.OK)
		return
	}
	f, e := c.in.Digest()
	must(e)
	*d = f
}

// limited aborts if n, the length of a list, is too great.
func limited(n int) {
	if n > api.MaxList {
		must(api.ErrLimit)
	}
}

// length returns n, the length of a list, which it encodes, or the length that it decodes.
func length(c *coder, n int) int {
	limited(n) // ahead of the encoding, in which a length that is no count would be refused as a number
	number(c, &n)
	limited(n)
	return n
}

// list encodes or decodes l, whose elements have these fields.
func list[T any](c *coder, l *[]T, fields func(*coder, *T)) {
	for i := range length(c, len(*l)) {
		if i == len(*l) { // a list that is decoded has no elements yet; its count may exceed what the bytes hold
			var x T
			*l = append(*l, x)
		}
		fields(c, &(*l)[i])
	}
}
