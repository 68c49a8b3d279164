package directory_test

import (
	"encoding/hex"
	"slices"
	"testing"

	"tabellion/api"
	"tabellion/directory"
)

// sequence returns what Apply does of the last of the commands; those that are refused leave what was there.
func sequence(t *testing.T, l ...api.Command) (got api.Directory, e api.Errno) {
	t.Helper()
	var d api.Directory
	for _, c := range l {
		if got, e = mustApply(t, d, c); e == api.OK {
			d = got
		}
	}
	return got, e
}

// TestExamples has those of the chapter.
func TestExamples(t *testing.T) {
	p := func(n int, name string) api.Command { return put(1, n, name, "k") }
	one := api.Directory{Users: []api.User{{Name: "a", Versions: []api.Version{{Epoch: 1, Kind: api.VerPut, Key: "k"}}}}, Sessions: []api.Session{{Client: 1, Seq: 1}}}
	there := cloned(one)
	there.Sessions[0] = api.Session{Client: 1, Seq: 2, Code: api.ErrVersionThere}
	sealed, headed := cloned(one), cloned(one)
	sealed.Epoch, headed.Epoch = 1, 1
	root, e := directory.Root(sealed, 1)
	if e != api.OK || root != rootAt(sealed, 1) {
		t.Fatalf("P10.3: the root of epoch 1 is %x, %d", root, e)
	}
	headed.Heads = []api.Head{{Epoch: 1, Root: root}}
	for _, x := range []struct {
		l    []api.Command
		want api.Directory
		e    api.Errno
	}{
		{[]api.Command{p(1, "a")}, one, api.OK},
		{[]api.Command{p(1, "a"), p(1, "b")}, one, api.OK},
		{[]api.Command{p(1, "a"), p(1, "b"), p(2, "a")}, there, api.OK},
		{[]api.Command{p(1, "a"), p(1, "b"), p(2, "a"), p(1, "a")}, api.Directory{}, api.ErrDirOld},
		{[]api.Command{p(1, "a"), seal(1)}, sealed, api.OK},
		{[]api.Command{p(1, "a"), seal(1), seal(1)}, api.Directory{}, api.ErrDirSeal},
		{[]api.Command{p(1, "a"), seal(1), seal(1), seal(3)}, api.Directory{}, api.ErrDirSeal},
		{[]api.Command{p(1, "a"), seal(1), intent(1, root)}, headed, api.OK},
		{[]api.Command{p(1, "a"), seal(1), intent(1, root), intent(1, root)}, api.Directory{}, api.ErrDirIntent},
	} {
		if got, e := sequence(t, x.l...); !same(got, x.want) || e != x.e {
			t.Errorf("P10.2: %+v is %s, %d; want %s, %d", x.l, brief(got), e, brief(x.want), x.e)
		}
	}
}

// TestWhatIsKnown has digests that were computed outside the program.
func TestWhatIsKnown(t *testing.T) {
	d := mustGet(t, api.Directory{}, seal(1), seal(2))
	if root, _ := directory.Root(d, 2); hex.EncodeToString(root[:]) != "dbc1b4c900ffe48d575b5da5c638040125f65db0fe3e24494b76ea986457d986" {
		t.Errorf("P10.3: the root of nobody is %x", root)
	}
	d = mustGet(t, api.Directory{}, put(2, 1, "a", "k"), seal(1), put(1, 1, "b", "m"), rotate(2, 2, "a", "l"), revoke(1, 2, "b"), seal(2), put(1, 3, "c", "n"), seal(3))
	prevs := []string{"0000000000000000000000000000000000000000000000000000000000000000", "841fdedf45d1ab36b8cad4eb4cdad3407fc757d75bdcf0891e9ae2cfdba0a1de", "81150ddaf004eef986d80e60c2e71136c07f7190c69f6a3315ba413a776474df"}
	roots := []string{"69982b465cb70f857fbf33975e2b2b24b9948f584e7df50f38ab7c14579f574f", "127902c77074a8f7f2ba526c08421fe7e6d82e0caeb41b19c51c42240ec53a01", "ce3e0c870b8f7075e0bebe9d66e81a3ced1443a68ce881b246308ff57502d242"}
	for i, want := range roots {
		root, e := directory.Root(d, i+1)
		if got := hex.EncodeToString(root[:]); got != want || e != api.OK {
			t.Errorf("P10.3: the root of epoch %d is %s, %d; want %s", i+1, got, e, want)
		}
		d = mustGet(t, d, intent(i+1, root))
		if got := hex.EncodeToString(d.Heads[i].Prev[:]); got != prevs[i] {
			t.Errorf("P10.2: the Prev of epoch %d is %s; want %s", i+1, got, prevs[i])
		}
	}
	l, x, e := directory.Look(d, "a", 3)
	if want := []api.Version{{Epoch: 1, Kind: api.VerPut, Key: "k"}, {Epoch: 2, Kind: api.VerRotate, Key: "l"}}; !slices.Equal(l, want) || len(x.Siblings) == 0 || e != api.OK {
		t.Errorf("P10.3: Look for a is %v, %v, %d", l, x, e)
	}
}
