package directory_test

import (
	"fmt"
	"math/rand"
	"slices"
	"testing"

	"tabellion/api"
	"tabellion/directory"
)

// dice makes commands at random, mostly such as change something.
type dice struct{ *rand.Rand }

func (r dice) command(d api.Directory) api.Command {
	client := 1 + r.Intn(4)
	c := api.Command{Kind: api.CmdKind(1 + r.Intn(3)), Client: client, Seq: sessionOf(d, client).Seq + r.Intn(4) - 1, User: []string{"a", "a\x00", "b", "c", "\xff"}[r.Intn(5)], Key: keys[r.Intn(len(keys))]}
	if c.Kind == api.CmdRevoke && r.Intn(20) > 0 {
		c.Key = ""
	}
	switch r.Intn(10) {
	case 0, 1:
		return seal(d.Epoch + 1)
	case 2:
		return seal(d.Epoch + r.Intn(4) - 1)
	case 3, 4:
		return intent(len(d.Heads)+1, rootAt(d, len(d.Heads)+1))
	case 5:
		epoch := d.Epoch + r.Intn(4) - 2
		return intent(epoch, rootAt(d, max(1, epoch-r.Intn(2))))
	}
	return c
}

// mustRemain fails if anything that is sealed, or a head, isn't in next as it is in d.
func mustRemain(t *testing.T, d, next api.Directory) {
	t.Helper()
	if next.Epoch < d.Epoch || len(next.Heads) < len(d.Heads) || !slices.Equal(next.Heads[:len(d.Heads)], d.Heads) {
		t.Fatalf("P10.4: %s becomes %s", brief(d), brief(next))
	}
	for epoch := max(1, d.Epoch-2); epoch <= d.Epoch; epoch++ {
		one, _ := directory.Root(d, epoch)
		if two, e := directory.Root(next, epoch); one != two || e != api.OK {
			t.Fatalf("P10.4: the root of epoch %d becomes %x, %d; it was %x", epoch, two, e, one)
		}
	}
	for _, u := range next.Users {
		if old := historyOf(d, u.Name); !slices.Equal(upTo(u.Versions, d.Epoch), upTo(old, d.Epoch)) || len(u.Versions) < len(old) || !slices.Equal(u.Versions[:len(old)], old) {
			t.Fatalf("P10.4: the history %v becomes %v", old, u.Versions)
		}
	}
	for _, u := range d.Users {
		if historyOf(next, u.Name) == nil {
			t.Fatalf("P10.4: the user %q is gone", u.Name)
		}
	}
}

// TestRuns executes commands at random, of which the chapter's words determine what comes of each.
func TestRuns(t *testing.T) {
	found := map[api.Errno]int{}
	for seed := range 60 {
		r := dice{rand.New(rand.NewSource(int64(seed)))}
		var d api.Directory
		var done []api.Command
		for range 150 {
			c := r.command(d)
			next, e := mustApply(t, d, c)
			found[e]++
			if e != api.OK {
				continue
			}
			if directory.Check(next) != api.OK {
				t.Fatalf("P10.4: Apply of %+v to %s is not valid: %s", c, brief(d), brief(next))
			}
			mustRemain(t, d, next)
			d, done = next, append(done, c)
			mustLook(t, d, []string{"a", "a\x00", "b", "c", "\xff", "none"}[r.Intn(6)], r.Intn(d.Epoch+1))
			mustHaveNoEffect(t, d, done)
		}
		mustBeSealed(t, d)
	}
	for _, e := range []api.Errno{api.OK, api.ErrDirForm, api.ErrDirOld, api.ErrDirSeal, api.ErrDirIntent} {
		if found[e] < 50 {
			t.Errorf("only %d of the answers are %d", found[e], e)
		}
	}
}

// mustHaveNoEffect fails if one of the last commands that were executed has an effect again.
func mustHaveNoEffect(t *testing.T, d api.Directory, done []api.Command) {
	t.Helper()
	for _, c := range done[max(0, len(done)-12):] {
		if got, e := directory.Apply(d, c); e == api.OK && !same(got, d) {
			t.Fatalf("P10.4: %+v has an effect once more on %s: %s", c, brief(d), brief(got))
		}
	}
}

// mustBeSealed fails if the heads of d aren't those of its epochs, one for each.
func mustBeSealed(t *testing.T, d api.Directory) {
	t.Helper()
	for i, h := range d.Heads {
		if root, e := directory.Root(d, i+1); h.Epoch != i+1 || h.Root != root || e != api.OK {
			t.Fatalf("P10.4: the head %+v isn't that of epoch %d", h, i+1)
		}
		for _, root := range []api.Digest{h.Root, {}, {1}} {
			mustRefuse(t, d, intent(i+1, root), api.ErrDirIntent)
		}
	}
}

// TestAWholeLife goes through all epochs, with 64 users and one too many.
func TestAWholeLife(t *testing.T) {
	var d api.Directory
	seqs := map[int]int{}
	request := func(client int, c api.Command, code api.Errno) {
		t.Helper()
		seqs[client]++
		c.Client, c.Seq = client, seqs[client]
		d = mustCode(t, d, c, code)
	}
	for epoch := 1; epoch <= 200; epoch++ {
		name, late := fmt.Sprintf("user %d", epoch), fmt.Sprintf("user %d", epoch-10)
		if epoch <= 64 {
			request(1, put(0, 0, name, "k"), api.OK)
		} else {
			request(1, put(0, 0, name, "k"), api.ErrLimit)
		}
		if epoch > 10 && epoch <= 74 {
			request(2, rotate(0, 0, late, "l"), api.OK)
			request(3, revoke(0, 0, late), api.OK)
			request(4, revoke(0, 0, late), api.ErrVersionNone)
		}
		old := d
		d = mustGet(t, d, seal(epoch))
		mustRemain(t, old, d)
		d = mustGet(t, d, intent(epoch, rootAt(d, epoch)))
		mustLook(t, d, late, epoch)
		mustLook(t, d, name, max(1, epoch-3))
	}
	request(1, put(0, 0, "user 1", "k"), api.ErrLimit)
	mustRefuse(t, d, seal(200), api.ErrDirSeal)
	if d.Epoch != 200 || len(d.Heads) != 200 || len(d.Users) != 64 || len(d.Sessions) != 4 || directory.Check(d) != api.OK {
		t.Errorf("P10.4: at the end it is %s", brief(d))
	}
	mustBeSealed(t, d)
}

// TestProofsOfManyUsers: every proof of every epoch is accepted.
func TestProofsOfManyUsers(t *testing.T) {
	d := api.Directory{Epoch: 5}
	for i := range 64 {
		d.Users = append(d.Users, api.User{Name: fmt.Sprintf("%02d", i), Versions: moved(past([]string{"P", "PV", "P2R", "PR3V", "P2V4P"}[i%5]), i%3)})
	}
	if directory.Check(d) != api.OK {
		t.Fatalf("the directory of the test isn't valid: %s", brief(d))
	}
	for epoch := 1; epoch <= 5; epoch++ {
		mustRoot(t, d, epoch)
		for i := range 80 {
			mustLook(t, d, fmt.Sprintf("%02d", i), epoch)
		}
	}
}
