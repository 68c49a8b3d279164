package version_test

import (
	"encoding/binary"
	"fmt"
	"math"
	"math/rand"
	"regexp"
	"slices"
	"strings"
	"testing"

	"tabellion/api"
)

// order is how the kinds of a history follow one another: P is VerPut, R is VerRotate, V is VerRevoke.
var order = regexp.MustCompile(`^(PR*V)*(PR*)?$`)

var (
	noKinds  = []api.VerKind{0, 4, -1, 5, -2, 255, 257, math.MaxInt32, math.MinInt32, math.MaxInt, math.MinInt}
	noEpochs = []int{0, 201, -1, 202, 256, 257, -200, math.MaxInt32, math.MinInt32, math.MaxInt, math.MinInt}
	epochs   = []int{1, 2, 100, 127, 128, 199, 200}
	keys     = []string{"k", "\x00", "\xff", "\xff\xfe\x00", " ", "ż", strings.Repeat("a", 32), strings.Repeat("\x80", 63), strings.Repeat("z", 64), strings.Repeat("\x00", 64)}
	noKeys   = []string{"", strings.Repeat("z", 65), strings.Repeat("\x00", 66), strings.Repeat("a", 128), strings.Repeat("b", 65536), strings.Repeat("c", 65537), strings.Repeat("ż", 33)}
)

func put(epoch int, key string) api.Version {
	return api.Version{Epoch: epoch, Kind: api.VerPut, Key: key}
}

func rotate(epoch int, key string) api.Version {
	return api.Version{Epoch: epoch, Kind: api.VerRotate, Key: key}
}

func revoke(epoch int) api.Version {
	return api.Version{Epoch: epoch, Kind: api.VerRevoke}
}

// of returns a list of the versions.
func of(l ...api.Version) []api.Version {
	return l
}

// spelt returns a list of the kinds that the letters name, all of one epoch. Every other letter is a kind that is none.
func spelt(epoch int, letters string) []api.Version {
	var l []api.Version
	for _, c := range letters {
		switch c {
		case 'P':
			l = append(l, put(epoch, "k"))
		case 'R':
			l = append(l, rotate(epoch, "l"))
		case 'V':
			l = append(l, revoke(epoch))
		default:
			l = append(l, api.Version{Epoch: epoch, Key: "k"})
		}
	}
	return l
}

// letters names the kinds of l.
func letters(l []api.Version) string {
	var b strings.Builder
	for _, v := range l {
		switch v.Kind {
		case api.VerPut:
			b.WriteByte('P')
		case api.VerRotate:
			b.WriteByte('R')
		case api.VerRevoke:
			b.WriteByte('V')
		default:
			b.WriteByte('?')
		}
	}
	return b.String()
}

// isValid is the chapter's 'a version is valid'.
func isValid(v api.Version) bool {
	if v.Epoch < 1 || 200 < v.Epoch {
		return false
	}
	if v.Kind == api.VerRevoke {
		return len(v.Key) == 0
	}
	return (v.Kind == api.VerPut || v.Kind == api.VerRotate) && 1 <= len(v.Key) && len(v.Key) <= 64
}

// isHistory is the chapter's 'a history'.
func isHistory(l []api.Version) bool {
	notDown := slices.IsSortedFunc(l, func(a, b api.Version) int {
		if a.Epoch < b.Epoch {
			return -1
		} else if a.Epoch > b.Epoch {
			return 1
		}
		return 0
	})
	return len(l) <= 16 && notDown && order.MatchString(letters(l)) && !slices.ContainsFunc(l, func(v api.Version) bool { return !isValid(v) })
}

// activeOf is the chapter's 'active'.
func activeOf(l []api.Version) (string, bool) {
	if name := letters(l); !isHistory(l) || name == "" || strings.HasSuffix(name, "V") {
		return "", false
	}
	return l[len(l)-1].Key, true
}

// nextOf is P7.2.
func nextOf(l []api.Version, v api.Version) ([]api.Version, api.Errno) {
	_, active := activeOf(l)
	switch {
	case !isHistory(l), !isValid(v), len(l) > 0 && v.Epoch < l[len(l)-1].Epoch:
		return nil, api.ErrVersionForm
	case v.Kind == api.VerPut && active:
		return nil, api.ErrVersionThere
	case v.Kind != api.VerPut && !active:
		return nil, api.ErrVersionNone
	case len(l) == 16:
		return nil, api.ErrLimit
	}
	return slices.Concat(l, of(v)), api.OK
}

// atOf is P7.3.
func atOf(l []api.Version, epoch int) []api.Version {
	if !isHistory(l) {
		return nil
	}
	return slices.DeleteFunc(slices.Clone(l), func(v api.Version) bool { return v.Epoch > epoch })
}

// written is the encoding of l, be it a history or not, by the chapter's words.
func written(l []api.Version) []byte {
	b := binary.AppendUvarint(nil, uint64(len(l)))
	for _, v := range l {
		b = binary.AppendUvarint(b, uint64(v.Epoch))
		b = binary.AppendUvarint(b, uint64(v.Kind))
		b = binary.AppendUvarint(b, uint64(len(v.Key)))
		b = append(b, v.Key...)
	}
	return b
}

// each calls f with every list of at most n of the versions.
func each(versions []api.Version, n int, f func(l []api.Version)) {
	var grow func(l []api.Version)
	grow = func(l []api.Version) {
		f(l)
		if len(l) < n {
			for _, v := range versions {
				grow(append(slices.Clone(l), v))
			}
		}
	}
	grow(nil)
}

// some are versions of which lists are made, valid ones and others.
func some() []api.Version {
	return of(put(1, "k"), put(2, "l"), rotate(1, "m"), rotate(2, "n"), revoke(1), revoke(2),
		put(0, "k"), rotate(201, "k"), put(2, ""), api.Version{Epoch: 2, Kind: api.VerRevoke, Key: "k"}, api.Version{Epoch: 1, Key: "k"}, api.Version{Epoch: 2}, api.Version{})
}

// sound are versions of which lists are made, all of them valid.
func sound() []api.Version {
	return of(put(1, "k"), put(2, "l"), put(200, "o"), rotate(1, "m"), rotate(2, "n"), rotate(200, "p"), revoke(1), revoke(2), revoke(200))
}

// histories returns some of every length, with keys of all sorts.
func histories() [][]api.Version {
	r := rand.New(rand.NewSource(7))
	list := [][]api.Version{nil, {}}
	for n := 1; n <= 16; n++ {
		for range 40 {
			var l []api.Version
			epoch, active := 1+r.Intn(60), false
			for range n {
				v := api.Version{Epoch: epoch, Key: keys[r.Intn(len(keys))]}
				switch {
				case !active:
					v.Kind = api.VerPut
				case r.Intn(3) == 0:
					v.Kind, v.Key = api.VerRevoke, ""
				default:
					v.Kind = api.VerRotate
				}
				active = v.Kind != api.VerRevoke
				l = append(l, v)
				epoch = min(200, epoch+r.Intn(4)*r.Intn(20))
			}
			list = append(list, l)
		}
	}
	return list
}

// refused returns lists that are no histories, a few of each sort.
func refused() [][]api.Version {
	list := [][]api.Version{
		spelt(1, "R"), spelt(1, "V"), spelt(1, "?"), spelt(1, "PP"), spelt(1, "PRP"), spelt(1, "PVR"), spelt(1, "PVV"), spelt(1, "PRR?"), spelt(1, "P?R"),
		of(put(2, "k"), rotate(1, "l")), of(put(1, "k"), rotate(3, "l"), revoke(2)), spelt(5, "P"+strings.Repeat("R", 16)), spelt(5, strings.Repeat("PV", 40)), make([]api.Version, 1), make([]api.Version, 16), make([]api.Version, 5000),
	}
	for _, kind := range noKinds {
		list = append(list, of(api.Version{Epoch: 1, Kind: kind, Key: "k"}), of(put(1, "k"), api.Version{Epoch: 1, Kind: kind}))
	}
	for _, epoch := range noEpochs {
		list = append(list, of(put(epoch, "k")), of(put(1, "k"), rotate(epoch, "l")), of(put(1, "k"), revoke(epoch)))
	}
	for _, key := range noKeys {
		list = append(list, of(put(1, key)), of(put(1, "k"), rotate(1, key), rotate(1, "k")))
	}
	for _, key := range append(keys, noKeys[1:]...) {
		list = append(list, of(put(1, "k"), api.Version{Epoch: 1, Kind: api.VerRevoke, Key: key}))
	}
	return list
}

// brief tells l, cut if it is long.
func brief(l []api.Version) string {
	s := fmt.Sprintf("%d versions %#v", len(l), l)
	return s[:min(len(s), 300)]
}

// TestReference: the reference accepts and refuses what it is meant to.
func TestReference(t *testing.T) {
	for _, l := range histories() {
		if !isHistory(l) {
			t.Fatalf("the reference refuses %s", brief(l))
		}
	}
	for _, l := range refused() {
		if isHistory(l) {
			t.Fatalf("the reference accepts %s", brief(l))
		}
	}
}
