package octet

import "tabellion/api"

// Reader decodes bytes from its position on.
type Reader struct {
	rest []byte // the bytes from the position on
}

// New returns a reader of all of b.
func New(b []byte) *Reader {
	return &Reader{rest: roomy(b, 0)}
}

// Left returns the number of bytes from the position on.
func (r *Reader) Left() int {
	if r == nil {
		return 0
	}
	return len(r.rest)
}

// Count decodes a count.
func (r *Reader) Count() (int, api.Errno) {
	if r == nil {
		return 0, api.ErrNil
	}
	n, size, e := frontCount(r.rest)
	if e != api.OK {
		return 0, e
	}
	r.rest = after(r.rest, size)
	return n, api.OK
}

// Bytes decodes a byte string.
func (r *Reader) Bytes() (string, api.Errno) {
	if r == nil {
		return "", api.ErrNil
	}
	n, size, e := frontCount(r.rest)
	if e != api.OK {
		return "", e
	}
	if n > api.MaxBytes {
		return "", api.ErrOctetForm
	}
	body := after(r.rest, size)
	if n > len(body) {
		return "", api.ErrOctetEnd
	}
	r.rest = after(body, n)
	return string(body[:n]), api.OK
}

// Digest decodes a digest.
func (r *Reader) Digest() (api.Digest, api.Errno) {
	if r == nil {
		return api.Digest{}, api.ErrNil
	}
	var d api.Digest
	if len(r.rest) < len(d) {
		return d, api.ErrOctetEnd
	}
	copy(d[:], r.rest)
	r.rest = after(r.rest, len(d))
	return d, api.OK
}

// after returns what follows the first n bytes of b, without the memory that lies behind b.
func after(b []byte, n int) []byte {
	return b[n:len(b):len(b)]
}

// frontCount returns the count that the first bytes of b encode, and the number of these bytes.
func frontCount(b []byte) (n, size int, e api.Errno) {
	// Five groups may exceed an int of 32 bits.
	var sum uint64
	for i, c := range b[:min(len(b), maxGroups)] {
		sum += uint64(c%more) << (7 * i)
		if c >= more {
			continue
		}
		if c == 0 && i > 0 || sum > api.MaxCount {
			return 0, 0, api.ErrOctetForm
		}
		return int(sum), i + 1, api.OK
	}
	if len(b) < maxGroups {
		return 0, 0, api.ErrOctetEnd
	}
	return 0, 0, api.ErrOctetForm
}
