package directory_test

import (
	"fmt"
	"slices"
	"strings"
	"testing"

	"tabellion/api"
	"tabellion/directory"
	"tabellion/version"
)

// mustCode fails if Apply of the request c to d doesn't note the code in the client's session; or if it changes more than the user's history, where the code is OK, and nothing else, where it isn't.
func mustCode(t *testing.T, d api.Directory, c api.Command, code api.Errno) api.Directory {
	t.Helper()
	got, e := mustApply(t, d, c)
	if s := sessionOf(got, c.Client); e != api.OK || s != (api.Session{Client: c.Client, Seq: c.Seq, Code: code, Epoch: d.Epoch}) {
		t.Fatalf("P10.2: Apply of %+v to %s is %d with the session %+v; want the code %d", c, brief(d), e, s, code)
	}
	changed := 0
	for _, u := range got.Users {
		if old := historyOf(d, u.Name); !slices.Equal(old, u.Versions) {
			changed++
			if u.Name != c.User || len(u.Versions) != len(old)+1 || u.Versions[len(old)] != (api.Version{Epoch: d.Epoch + 1, Kind: api.VerKind(c.Kind), Key: c.Key}) {
				t.Fatalf("P10.2: Apply of %+v to %s makes the user %+v", c, brief(d), u)
			}
		}
	}
	if (changed == 1) != (code == api.OK) || !slices.Equal(got.Heads, d.Heads) || got.Epoch != d.Epoch {
		t.Fatalf("P10.2: Apply of %+v to %s, with the code %d, is %s", c, brief(d), code, brief(got))
	}
	return got
}

func TestRequestsOfEachKind(t *testing.T) {
	d := mustCode(t, api.Directory{}, put(1, 1, "u", "k"), api.OK)
	d = mustCode(t, d, rotate(1, 2, "u", "l"), api.OK)
	d = mustCode(t, d, rotate(2, 1, "u", "l"), api.OK)
	d = mustCode(t, d, revoke(4, 3, "u"), api.OK)
	d = mustCode(t, d, put(1, 1000000, "u", "m"), api.OK)
	want := []api.Version{{Epoch: 1, Kind: api.VerPut, Key: "k"}, {Epoch: 1, Kind: api.VerRotate, Key: "l"}, {Epoch: 1, Kind: api.VerRotate, Key: "l"}, {Epoch: 1, Kind: api.VerRevoke}, {Epoch: 1, Kind: api.VerPut, Key: "m"}}
	if !slices.Equal(historyOf(d, "u"), want) || len(d.Users) != 1 {
		t.Errorf("P10.2: the users are %+v", d.Users)
	}
	if want := []api.Session{{Client: 1, Seq: 1000000}, {Client: 2, Seq: 1}, {Client: 4, Seq: 3}}; !slices.Equal(d.Sessions, want) {
		t.Errorf("P10.2: the sessions are %+v; want %+v", d.Sessions, want)
	}
}

// TestRequestsOfEpochs: a version has the epoch that is sealed next, a session the number of those that are.
func TestRequestsOfEpochs(t *testing.T) {
	for epoch := range 200 {
		d := mustCode(t, api.Directory{Epoch: epoch}, put(2, 5, "u", "k"), api.OK)
		if v := d.Users[0].Versions[0]; v.Epoch != epoch+1 || d.Sessions[0].Epoch != epoch {
			t.Errorf("P10.2: at epoch %d: %s", epoch, brief(d))
		}
	}
	mustCode(t, api.Directory{Epoch: 200}, put(2, 5, "u", "k"), api.ErrLimit)
}

func TestRequestsOfKeysAndNames(t *testing.T) {
	for _, name := range names {
		for _, key := range keys {
			d := mustCode(t, rich(), put(3, 1, name, key), codeOf(rich(), put(3, 1, name, key)))
			d = mustCode(t, d, rotate(3, 2, name, key), api.OK)
			mustCode(t, d, revoke(3, 3, name), api.OK)
		}
	}
}

// codeOf is the code that P10.2 gives for c, of which the session is older.
func codeOf(d api.Directory, c api.Command) api.Errno {
	got, _ := applied(d, c)
	return sessionOf(got, c.Client).Code
}

// TestSeqs has a session and a request with each two of some numbers.
func TestSeqs(t *testing.T) {
	seqs := []int{1, 2, 3, 127, 128, 65536, 999999, 1000000}
	for client := 1; client <= 4; client++ {
		for _, old := range seqs {
			d := rich()
			d.Sessions = []api.Session{{Client: client, Seq: old, Code: 65535, Epoch: 1}}
			if other := client%4 + 1; other > client {
				d.Sessions = append(d.Sessions, api.Session{Client: other, Seq: 500, Epoch: 2})
			}
			for _, seq := range seqs {
				for _, c := range []api.Command{put(client, seq, "new", "k"), put(client, seq, "b", "k"), rotate(client, seq, "b", "k"), revoke(client, seq, "b"), revoke(client, seq, "none")} {
					switch {
					case seq < old:
						mustRefuse(t, d, c, api.ErrDirOld)
					case seq == old:
						if got, e := directory.Apply(d, c); !same(got, d) || e != api.OK {
							t.Fatalf("P10.2: Apply of %+v to %s is %s, %d; want what was there", c, brief(d), brief(got), e)
						}
					default:
						mustCode(t, d, c, codeOf(d, c))
					}
				}
			}
		}
	}
}

// TestSeqsAreTheClients: the session of one client says nothing about another one's request.
func TestSeqsAreTheClients(t *testing.T) {
	d := rich() // with sessions of the clients 1, 2 and 4
	d = mustCode(t, d, put(3, 1, "one", "k"), api.OK)
	d = mustCode(t, d, put(4, 2, "two", "k"), api.OK)
	d = mustCode(t, d, put(1, 8, "three", "k"), api.OK)
	mustRefuse(t, d, put(2, 999999, "four", "k"), api.ErrDirOld)
	mustRefuse(t, d, put(4, 1, "four", "k"), api.ErrDirOld)
	if got := mustGet(t, d, put(2, 1000000, "four", "k"), put(3, 1, "four", "k"), put(4, 2, "four", "k")); !same(got, d) {
		t.Errorf("P10.2: requests that were executed change %s into %s", brief(d), brief(got))
	}
}

// TestSessionsInEveryOrder: sessions are by rising client, in whatever order the clients come.
func TestSessionsInEveryOrder(t *testing.T) {
	var grow func(d api.Directory, left []int)
	grow = func(d api.Directory, left []int) {
		for i, client := range left {
			c := put(client, 10+client, fmt.Sprint("user", client), "k")
			grow(mustCode(t, d, c, api.OK), slices.Delete(slices.Clone(left), i, i+1))
		}
	}
	grow(api.Directory{}, []int{1, 2, 3, 4})
}

// TestUsersInEveryOrder: users are by rising name, in whatever order they come.
func TestUsersInEveryOrder(t *testing.T) {
	var grow func(d api.Directory, seq int, left []string)
	grow = func(d api.Directory, seq int, left []string) {
		for i, name := range left {
			grow(mustCode(t, d, put(1, seq, name, "k"), api.OK), seq+1, slices.Delete(slices.Clone(left), i, i+1))
		}
	}
	grow(api.Directory{}, 1, []string{"\x00", "a", "a\x00", "aa", "\xff"})
}

// TestUsersAheadBetweenAndBehind has a new user at each place of many, and a change of each of those.
func TestUsersAheadBetweenAndBehind(t *testing.T) {
	for _, n := range []int{0, 1, 2, 3, 62, 63} {
		d := api.Directory{Epoch: 2, Users: crowd(n)}
		for i := range n + 1 {
			name := fmt.Sprintf("user %03d", 2*i) // those that are there have odd numbers
			got := mustCode(t, d, put(1, 1, name, "k"), api.OK)
			if got.Users[i].Name != name || len(got.Users) != n+1 {
				t.Errorf("P10.2: a user who belongs at place %d is not there: %s", i, brief(got))
			}
			mustCode(t, d, rotate(1, 1, name, "k"), api.ErrVersionNone)
			mustCode(t, d, revoke(1, 1, name), api.ErrVersionNone)
		}
		for i, u := range d.Users {
			got := mustCode(t, d, rotate(1, 1, u.Name, "l"), api.OK)
			if len(got.Users[i].Versions) != 2 || len(got.Users) != n {
				t.Errorf("P10.2: a change of the user at place %d is not there: %s", i, brief(got))
			}
			mustCode(t, d, revoke(1, 1, u.Name), api.OK)
			mustCode(t, d, put(1, 1, u.Name, "k"), api.ErrVersionThere)
		}
	}
}

// TestCodes has each of those that the promise names, and several at once.
func TestCodes(t *testing.T) {
	long, lapsed := past("P"+strings.Repeat("R", 15)), past(strings.Repeat("PV", 8))
	some := func(n int, l []api.Version) []api.User {
		users := crowd(n)
		users[0].Versions = l
		return users
	}
	const there, none = "user 001", "none"
	for _, x := range []struct {
		name  string
		epoch int
		users []api.User
		c     api.Command
		code  api.Errno
	}{
		{"a new user", 0, nil, put(1, 1, there, "k"), api.OK},
		{"the 64th user", 7, crowd(63), put(1, 1, none, "k"), api.OK},
		{"the last epoch", 199, crowd(63), put(1, 1, none, "k"), api.OK},
		{"the epochs are sealed", 200, nil, put(1, 1, none, "k"), api.ErrLimit},
		{"the epochs are sealed: rotate", 200, crowd(1), rotate(1, 1, there, "k"), api.ErrLimit},
		{"the epochs are sealed: revoke", 200, crowd(1), revoke(1, 1, there), api.ErrLimit},
		{"the epochs are sealed, and there", 200, crowd(1), put(1, 1, there, "k"), api.ErrLimit},
		{"the epochs are sealed, and none", 200, crowd(1), rotate(1, 1, none, "k"), api.ErrLimit},
		{"the epochs are sealed, and none", 200, crowd(64), revoke(1, 1, none), api.ErrLimit},
		{"the epochs are sealed, and 64 users", 200, crowd(64), put(1, 1, none, "k"), api.ErrLimit},
		{"there", 0, crowd(1), put(1, 1, there, "k"), api.ErrVersionThere},
		{"there, at another epoch", 9, some(3, past("P2R4R")), put(1, 1, there, "k"), api.ErrVersionThere},
		{"there, and 64 users", 3, crowd(64), put(1, 1, there, "k"), api.ErrVersionThere},
		{"there, and 16 versions", 3, some(1, long), put(1, 1, there, "k"), api.ErrVersionThere},
		{"there, and 16 versions, and 64 users", 3, some(64, long), put(1, 1, there, "k"), api.ErrVersionThere},
		{"none: rotate", 0, nil, rotate(1, 1, none, "k"), api.ErrVersionNone},
		{"none: revoke", 0, nil, revoke(1, 1, none), api.ErrVersionNone},
		{"none, and 64 users: rotate", 3, crowd(64), rotate(1, 1, none, "k"), api.ErrVersionNone},
		{"none, and 64 users: revoke", 3, crowd(64), revoke(1, 1, none), api.ErrVersionNone},
		{"none any more: rotate", 3, some(2, past("P2V")), rotate(1, 1, there, "k"), api.ErrVersionNone},
		{"none any more: revoke", 3, some(2, past("P2V")), revoke(1, 1, there), api.ErrVersionNone},
		{"none any more, and 16 versions: rotate", 3, some(2, lapsed), rotate(1, 1, there, "k"), api.ErrVersionNone},
		{"none any more, and 16 versions: revoke", 3, some(2, lapsed), revoke(1, 1, there), api.ErrVersionNone},
		{"none any more: put", 3, some(2, past("P2V")), put(1, 1, there, "k"), api.OK},
		{"none any more, and 64 users: put", 3, some(64, past("P2V")), put(1, 1, there, "k"), api.OK},
		{"16 versions: rotate", 3, some(2, long), rotate(1, 1, there, "k"), api.ErrLimit},
		{"16 versions: revoke", 3, some(2, long), revoke(1, 1, there), api.ErrLimit},
		{"16 versions: put", 3, some(2, lapsed), put(1, 1, there, "k"), api.ErrLimit},
		{"the 16th version: rotate", 3, some(2, long[:15]), rotate(1, 1, there, "k"), api.OK},
		{"the 16th version: revoke", 3, some(2, lapsed[:15]), revoke(1, 1, there), api.OK},
		{"the 65th user", 3, crowd(64), put(1, 1, none, "k"), api.ErrLimit},
		{"the 65th user, ahead of all", 3, crowd(64), put(1, 1, "a", "k"), api.ErrLimit},
		{"the 65th user, behind all", 3, crowd(64), put(1, 1, "z", "k"), api.ErrLimit},
		{"64 users: rotate", 3, crowd(64), rotate(1, 1, there, "k"), api.OK},
		{"64 users: revoke", 3, crowd(64), revoke(1, 1, there), api.OK},
	} {
		t.Run(x.name, func(t *testing.T) {
			d := api.Directory{Epoch: x.epoch, Users: x.users}
			got := mustCode(t, d, x.c, x.code)
			again := x.c
			again.Seq = 2
			if x.code != api.OK { // what is refused is refused again
				mustCode(t, got, again, x.code)
			}
			d.Sessions = []api.Session{{Client: 1, Seq: 1, Code: 7}}
			if e := mustGet(t, d, x.c); !same(e, d) {
				t.Errorf("P10.2: a request that was executed changes %s into %s", brief(d), brief(e))
			}
			d.Sessions[0].Seq = 2
			mustRefuse(t, d, x.c, api.ErrDirOld)
		})
	}
}

// TestRequestsOfEveryHistory holds the code against version.Next, for histories of all sorts.
func TestRequestsOfEveryHistory(t *testing.T) {
	found := map[api.Errno]int{}
	for _, s := range []string{"P", "PR", "PV", "P2R", "P2V", "P5R", "P3R5V", "PVP", "P2V3P4V5P", "5PRV", "P" + strings.Repeat("R", 14), "P" + strings.Repeat("R", 15), strings.Repeat("PV", 8), strings.Repeat("PV", 7) + "5PR"} {
		if version.Check(past(s)) != api.OK {
			t.Fatalf("%s is no history", s)
		}
		d := api.Directory{Epoch: 4, Users: []api.User{user("a", "P"), user("m", s), user("z", "PV")}}
		for _, c := range []api.Command{put(1, 1, "m", "k"), rotate(1, 1, "m", "k"), revoke(1, 1, "m")} {
			_, code := version.Next(past(s), api.Version{Epoch: 5, Kind: api.VerKind(c.Kind), Key: c.Key})
			mustCode(t, d, c, code)
			found[code]++
		}
	}
	for _, e := range []api.Errno{api.OK, api.ErrVersionThere, api.ErrVersionNone, api.ErrLimit} {
		if found[e] == 0 {
			t.Errorf("the code %d isn't there", e)
		}
	}
}

// TestApplyOfWhatIsNotValid: that comes before all other errors.
func TestApplyOfWhatIsNotValid(t *testing.T) {
	for _, x := range spoilt() {
		for _, c := range append(commands(), noCommands()...) {
			mustRefuse(t, x.d, c, api.ErrDirForm)
		}
	}
	for _, x := range samples() {
		for _, c := range noCommands() {
			mustRefuse(t, x.d, c, api.ErrDirForm)
		}
	}
	d := rich()
	d.Sessions[0].Seq = 1000000
	mustRefuse(t, d, put(1, 1, "", "k"), api.ErrDirForm) // and an old request
	mustRefuse(t, d, put(1, 1000000, "a", ""), api.ErrDirForm)
	mustRefuse(t, api.Directory{Epoch: 200}, seal(201), api.ErrDirForm) // and not the next epoch
	mustRefuse(t, d, intent(0, api.Digest{}), api.ErrDirForm)
}

// TestApplyOfAll holds Apply against the chapter's words, for all samples and commands.
func TestApplyOfAll(t *testing.T) {
	found := map[api.Errno]int{}
	for _, x := range samples() {
		for _, c := range commands() {
			_, e := mustApply(t, x.d, c)
			found[e]++
		}
	}
	for _, e := range []api.Errno{api.OK, api.ErrDirOld, api.ErrDirSeal, api.ErrDirIntent} {
		if found[e] < 5 {
			t.Errorf("only %d of the answers are %d", found[e], e)
		}
	}
}
