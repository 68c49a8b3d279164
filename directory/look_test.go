package directory_test

import (
	"crypto/sha256"
	"fmt"
	"slices"
	"strings"
	"testing"

	"tabellion/api"
	"tabellion/directory"
	"tabellion/proof"
)

// sameProof reports whether x and y are the same proof; a list without elements may be nil.
func sameProof(x, y api.Proof) bool {
	return slices.Equal(x.Siblings, y.Siblings) && x.Other == y.Other && x.OtherPath == y.OtherPath && x.OtherValue == y.OtherValue
}

// isZeroProof reports whether x is the zero proof.
func isZeroProof(x api.Proof) bool {
	return sameProof(x, api.Proof{})
}

// mustRoot fails if Root isn't what the chapter says.
func mustRoot(t *testing.T, d api.Directory, epoch int) {
	t.Helper()
	want, e := api.Digest{}, api.ErrDirSeal
	switch {
	case !isValid(d):
		e = api.ErrDirForm
	case 1 <= epoch && epoch <= d.Epoch:
		want, e = rootAt(d, epoch), api.OK
	}
	if got, f := directory.Root(d, epoch); got != want || f != e {
		t.Fatalf("P10.3: Root of %s at %d is %x, %d; want %x, %d", brief(d), epoch, got, f, want, e)
	}
}

// mustLook returns the history that Look does, and fails if that or the proof isn't what the chapter says.
func mustLook(t *testing.T, d api.Directory, name string, epoch int) []api.Version {
	t.Helper()
	var want []api.Version
	var x api.Proof
	e := api.ErrDirSeal
	switch {
	case !isValid(d) || !isUserName(name):
		e = api.ErrDirForm
	case 1 <= epoch && epoch <= d.Epoch:
		want = upTo(historyOf(d, name), epoch)
		_, x, e = proof.Make(32, leavesAt(d, epoch), sha256.Sum256([]byte(name)))
	}
	got, y, f := directory.Look(d, name, epoch)
	if !slices.Equal(got, want) || !sameProof(x, y) || e != f {
		t.Fatalf("P10.3: Look of %s for %q at %d is %v, %v, %d; want %v, %v, %d", brief(d), name, epoch, got, y, f, want, x, e)
	}
	if e == api.OK {
		mustProve(t, d, name, epoch, got, y)
	}
	return got
}

// mustProve fails if the proof isn't accepted for the history alone (P10.5).
func mustProve(t *testing.T, d api.Directory, name string, epoch int, l []api.Version, x api.Proof) {
	t.Helper()
	root, _ := directory.Root(d, epoch)
	p := sha256.Sum256([]byte(name))
	c := api.Claim{Present: len(l) > 0}
	if c.Present {
		c.Value = valueOf(l)
	}
	if e := proof.Check(32, root, p, c, x); e != api.OK {
		t.Fatalf("P10.5: of %s at %d, the proof for %q is refused: %d", brief(d), epoch, name, e)
	}
	other := api.Claim{Present: true, Value: valueOf(append(slices.Clone(l), api.Version{Epoch: 200, Kind: api.VerRevoke}))}
	if proof.Check(32, root, p, other, x) == api.OK || c.Present && proof.Check(32, root, p, api.Claim{}, x) == api.OK {
		t.Fatalf("P10.5: of %s at %d, the proof for %q is accepted for another history", brief(d), epoch, name)
	}
}

// asked are names to look up in d: those of its users, those beside them, and others.
func asked(d api.Directory) []string {
	list := []string{"none", "\x00\x00\x00", "zzz", "\xff\xff", strings.Repeat("q", 32), "a", "user 000", "user 002", "user 128"}
	for i, u := range d.Users {
		if i < 8 || i == len(d.Users)-1 {
			list = append(list, u.Name)
		}
	}
	return list
}

// edgesOf are epochs at the edges of d's and of its users' histories, and those beside them.
func edgesOf(d api.Directory) []int {
	return []int{-1, 0, 1, 2, 3, 4, 5, d.Epoch - 1, d.Epoch, d.Epoch + 1, 199, 200, 201}
}

func TestRootAndLookOfSamples(t *testing.T) {
	for _, x := range samples() {
		for _, epoch := range append(edgesOf(x.d), far...) {
			mustRoot(t, x.d, epoch)
			for _, name := range asked(x.d) {
				mustLook(t, x.d, name, epoch)
			}
		}
	}
}

func TestRootAndLookOfWhatIsNotValid(t *testing.T) {
	for _, x := range spoilt() {
		for _, epoch := range append(edgesOf(x.d), far...) {
			mustRoot(t, x.d, epoch)
			mustLook(t, x.d, "a", epoch)
			mustLook(t, x.d, "", epoch)
		}
	}
}

// TestLookOfNames: what is no user name is refused ahead of an epoch that wasn't sealed.
func TestLookOfNames(t *testing.T) {
	for _, name := range noNames {
		for _, epoch := range append(edgesOf(rich()), far...) {
			mustLook(t, rich(), name, epoch)
		}
	}
	for _, name := range names {
		for epoch := 0; epoch <= 5; epoch++ {
			mustLook(t, rich(), name, epoch)
		}
	}
	for n := range 70 {
		_, _, e := directory.Look(rich(), strings.Repeat("n", n), 1)
		if (e == api.OK) != (1 <= n && n <= 32) || e != api.OK && e != api.ErrDirForm {
			t.Errorf("P10.3: Look for a name of %d bytes is %d", n, e)
		}
	}
}

// TestLookOfEachUser: users are found at each place of many, and nobody between them.
func TestLookOfEachUser(t *testing.T) {
	for _, n := range []int{0, 1, 2, 3, 7, 63, 64} {
		d := api.Directory{Epoch: 1, Users: crowd(n)}
		for i := range n {
			d.Users[i].Versions = append(d.Users[i].Versions, api.Version{Epoch: 1, Kind: api.VerRotate, Key: fmt.Sprint(i)})
		}
		for i := range 2*n + 2 {
			l := mustLook(t, d, fmt.Sprintf("user %03d", i), 1)
			if there := i%2 == 1 && i < 2*n; there != (len(l) == 2) || there && l[1].Key != fmt.Sprint(i/2) {
				t.Errorf("P10.3: Look for user %d of %d is %v", i, n, l)
			}
		}
	}
}

// TestLookOfEpochs: a user is there from the epoch of the first version on.
func TestLookOfEpochs(t *testing.T) {
	d := api.Directory{Epoch: 9, Users: []api.User{user("early", "P2R3V5P"), user("late", "4PRV8P"), user("next", "9P")}}
	d.Users[2].Versions = append(d.Users[2].Versions, api.Version{Epoch: 10, Kind: api.VerRevoke}) // which isn't sealed yet
	for _, x := range []struct {
		name    string
		lengths []int
	}{
		{"early", []int{0, 1, 2, 3, 3, 4, 4, 4, 4, 4, 0}},
		{"late", []int{0, 0, 0, 0, 3, 3, 3, 3, 4, 4, 0}},
		{"next", []int{0, 0, 0, 0, 0, 0, 0, 0, 0, 1, 0}},
		{"none", []int{0, 0, 0, 0, 0, 0, 0, 0, 0, 0, 0}},
	} {
		for epoch, n := range x.lengths {
			if l := mustLook(t, d, x.name, epoch); len(l) != n {
				t.Errorf("P10.3: Look for %s at %d is %v; want %d versions", x.name, epoch, l, n)
			}
		}
	}
	equal := func(a, b int) bool {
		one, _ := directory.Root(d, a)
		two, _ := directory.Root(d, b)
		return one == two
	}
	for epoch := 1; epoch < 9; epoch++ { // at the epochs 6 and 7, nothing was added
		if equal(epoch, epoch+1) != (epoch == 5 || epoch == 6) {
			t.Errorf("P10.3: the roots of the epochs %d and %d are equal: %t", epoch, epoch+1, equal(epoch, epoch+1))
		}
	}
}

// TestRootAndLookOfNobody: an epoch without users has the root of nothing, and nobody is proved not to be there.
func TestRootAndLookOfNobody(t *testing.T) {
	d := api.Directory{Epoch: 2, Users: []api.User{user("u", "3P")}}
	nothing := sha256.Sum256([]byte{2})
	for epoch := 1; epoch <= 2; epoch++ {
		if root, e := directory.Root(d, epoch); root != nothing || e != api.OK {
			t.Errorf("P10.3: Root at %d is %x, %d; want %x", epoch, root, e, nothing)
		}
		for _, name := range []string{"u", "v"} {
			if l, x, e := directory.Look(d, name, epoch); len(l) > 0 || !isZeroProof(x) || e != api.OK {
				t.Errorf("P10.3: Look for %s at %d is %v, %v, %d", name, epoch, l, x, e)
			}
		}
	}
}
