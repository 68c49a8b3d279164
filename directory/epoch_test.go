package directory_test

import (
	"slices"
	"testing"

	"tabellion/api"
	"tabellion/directory"
)

func TestSeal(t *testing.T) {
	for epoch := range 201 {
		d := headed(api.Directory{Epoch: epoch, Users: crowd(2), Sessions: []api.Session{{Client: 3, Seq: 9, Code: 51}}}, epoch/2)
		for next := 1; next <= 200; next++ {
			if next != epoch+1 {
				mustRefuse(t, d, seal(next), api.ErrDirSeal)
				continue
			}
			want := cloned(d)
			want.Epoch = next
			if got, e := directory.Apply(d, seal(next)); !same(got, want) || e != api.OK {
				t.Errorf("P10.2: CmdSeal with %d of %s is %s, %d", next, brief(d), brief(got), e)
			}
		}
		mustRefuse(t, d, seal(0), api.ErrDirForm)
		mustRefuse(t, d, seal(201), api.ErrDirForm)
	}
	for _, x := range samples() {
		if x.d.Epoch < 200 {
			mustGet(t, x.d, seal(x.d.Epoch+1))
		}
	}
}

func TestIntent(t *testing.T) {
	d := api.Directory{Epoch: 200, Users: []api.User{user("a", "P2R5R"), user("b", "2PV9P"), user("c", "4P")}}
	for i := range d.Users {
		d.Users[i].Versions = append(d.Users[i].Versions, api.Version{Epoch: 200, Kind: api.VerRevoke})
	}
	var prev api.Digest
	for epoch := 1; epoch <= 200; epoch++ {
		root := rootAt(d, epoch)
		next := mustGet(t, d, intent(epoch, root))
		want := cloned(d)
		want.Heads = append(want.Heads, api.Head{Epoch: epoch, Root: root, Prev: prev})
		if !same(next, want) {
			t.Fatalf("P10.2: CmdIntent with %d of %s is %s", epoch, brief(d), brief(next))
		}
		prev = digestOf(next.Heads[epoch-1])
		d = next
	}
	mustRefuse(t, d, intent(200, rootAt(d, 200)), api.ErrDirIntent)
	mustRefuse(t, d, intent(201, rootAt(d, 200)), api.ErrDirForm)
}

// TestIntentOfOtherEpochs has each epoch with its own root, for directories with each number of epochs and heads.
func TestIntentOfOtherEpochs(t *testing.T) {
	users := []api.User{user("a", "P2R3V"), user("b", "2P4V"), user("c", "4P6V")}
	for epoch := 5; epoch <= 9; epoch++ {
		for n := range epoch + 1 {
			d := headed(api.Directory{Epoch: epoch, Users: users}, n)
			for other := 1; other <= 12; other++ {
				c := intent(other, rootAt(d, other))
				if other == n+1 && other <= epoch {
					mustGet(t, d, c)
				} else {
					mustRefuse(t, d, c, api.ErrDirIntent)
				}
			}
			mustRefuse(t, d, intent(200, rootAt(d, 200)), api.ErrDirIntent)
		}
	}
}

// TestIntentOfAnotherRoot has roots that could be taken for that of the epoch.
func TestIntentOfAnotherRoot(t *testing.T) {
	for _, n := range []int{0, 1, 2, 3} {
		d := headed(rich(), n)
		right := rootAt(d, n+1)
		wrong := []api.Digest{{}, rootAt(d, n), rootAt(d, n+2), rootAt(api.Directory{Users: d.Users[:3]}, n+1), rootAt(api.Directory{}, 1), digestOf(api.Head{Epoch: n + 1, Root: right})}
		for bit := range 256 {
			root := right
			root[bit/8] ^= 1 << (bit % 8)
			wrong = append(wrong, root)
		}
		for _, h := range d.Heads {
			wrong = append(wrong, h.Root, h.Prev, digestOf(h))
		}
		for _, root := range wrong {
			if root == right {
				t.Fatalf("a root of the test is no wrong one: %x", root)
			}
			mustRefuse(t, d, intent(n+1, root), api.ErrDirIntent)
		}
		mustGet(t, d, intent(n+1, right))
	}
}

// TestIntentOfSeveralErrors: whichever are there, the error is one.
func TestIntentOfSeveralErrors(t *testing.T) {
	d := headed(rich(), 4) // all epochs have heads
	for _, c := range []api.Command{intent(5, rootAt(d, 5)), intent(5, api.Digest{}), intent(5, rootAt(d, 4)), intent(6, rootAt(d, 6)), intent(6, api.Digest{}), intent(4, rootAt(d, 4)), intent(4, api.Digest{1}), intent(1, rootAt(d, 1)), intent(200, api.Digest{})} {
		mustRefuse(t, d, c, api.ErrDirIntent)
	}
	d = headed(rich(), 1)
	for _, c := range []api.Command{intent(3, api.Digest{}), intent(3, rootAt(d, 2)), intent(1, rootAt(d, 2)), intent(5, rootAt(d, 2)), intent(2, rootAt(d, 1))} {
		mustRefuse(t, d, c, api.ErrDirIntent)
	}
	mustRefuse(t, api.Directory{}, intent(1, rootAt(api.Directory{}, 1)), api.ErrDirIntent)
	mustRefuse(t, api.Directory{}, intent(1, api.Digest{}), api.ErrDirIntent)
}

// TestIntentOfNobody: an epoch in which there is no user has a head as well.
func TestIntentOfNobody(t *testing.T) {
	d := mustGet(t, api.Directory{}, seal(1), seal(2), put(1, 1, "u", "k"), intent(1, rootAt(api.Directory{}, 1)), intent(2, rootAt(api.Directory{}, 2)), seal(3))
	if d.Heads[0].Root != d.Heads[1].Root || d.Heads[1].Prev != digestOf(d.Heads[0]) || d.Heads[0].Prev != (api.Digest{}) {
		t.Errorf("P10.2: the heads are %+v", d.Heads)
	}
	mustRefuse(t, d, intent(3, d.Heads[0].Root), api.ErrDirIntent)
	d = mustGet(t, d, intent(3, rootAt(d, 3)))
	if d.Heads[2].Root == d.Heads[1].Root {
		t.Errorf("P10.2: the heads are %+v", d.Heads)
	}
}

// TestIntentBehindForeignHeads: the heads that a valid directory has may have any roots; the next one follows the last of them.
func TestIntentBehindForeignHeads(t *testing.T) {
	d := rich()
	d.Heads = []api.Head{{Epoch: 1, Root: api.Digest{1}}, {Epoch: 2, Root: api.Digest{2}}}
	d.Heads[1].Prev = digestOf(d.Heads[0])
	got := mustGet(t, d, intent(3, rootAt(d, 3)))
	if want := slices.Concat(d.Heads, []api.Head{{Epoch: 3, Root: rootAt(d, 3), Prev: digestOf(d.Heads[1])}}); !slices.Equal(got.Heads, want) {
		t.Errorf("P10.2: the heads are %+v; want %+v", got.Heads, want)
	}
}
