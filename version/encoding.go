package version

import (
	"tabellion/api"
	"tabellion/octet"
	"tabellion/sha"
)

// text is an encoding as it grows.
type text struct{ bytes []byte }

// add appends b.
func (t *text) add(b []byte) {
	t.bytes = append(t.bytes, b...)
}

// encode passes the parts of the encoding of l, which is a history, to add, one after the other.
func encode(l []api.Version, add func([]byte)) {
	add(counted(len(l)))
	for _, v := range l {
		add(counted(v.Epoch))
		add(counted(int(v.Kind)))
		key, _ := octet.PutBytes(nil, v.Key) // no key is too long
		add(key)
	}
}

// counted returns the encoding of n, which is a count, as all numbers of a history are.
func counted(n int) []byte {
	b, _ := octet.PutCount(nil, n)
	return b
}

// Put returns the encoding of l.
func Put(l []api.Version) ([]byte, api.Errno) {
	if e := Check(l); e != api.OK {
		return nil, e
	}
	var whole text
	encode(l, whole.add)
	return whole.bytes, api.OK
}

// Get returns the history that Put encodes as b.
func Get(b []byte) ([]api.Version, api.Errno) {
	r := octet.New(b)
	l, ok := readList(r)
	if !ok || r.Left() > 0 || Check(l) != api.OK {
		return nil, api.ErrVersionForm
	}
	return l, api.OK
}

// readList decodes a list from the position of r on, and reports whether there is one that isn't too long.
func readList(r *octet.Reader) ([]api.Version, bool) {
	n, e := r.Count()
	if e != api.OK || n > api.MaxVersions {
		return nil, false
	}
	var l []api.Version
	for range n {
		v, ok := readVersion(r)
		if !ok {
			return nil, false
		}
		l = append(l, v)
	}
	return l, true
}

// readVersion decodes a version from the position of r on, and reports whether there is one, valid or not.
func readVersion(r *octet.Reader) (api.Version, bool) {
	epoch, e := r.Count()
	if e != api.OK {
		return api.Version{}, false
	}
	kind, e := r.Count()
	if e != api.OK {
		return api.Version{}, false
	}
	key, e := r.Bytes()
	if e != api.OK {
		return api.Version{}, false
	}
	return api.Version{Epoch: epoch, Kind: api.VerKind(kind), Key: key}, true
}

// Digest returns the digest of the encoding of l.
func Digest(l []api.Version) (api.Digest, api.Errno) {
	b, e := Put(l)
	if e != api.OK {
		return api.Digest{}, e
	}
	return sha.Sum(b), api.OK
}
