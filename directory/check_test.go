package directory_test

import (
	"bytes"
	"math"
	"math/rand"
	"slices"
	"strings"
	"testing"

	"tabellion/api"
	"tabellion/directory"
)

// mustCheck fails if Check isn't OK for a directory that is meant to be valid, or ErrDirForm for another one; and if another call accepts what Check doesn't.
func mustCheck(t *testing.T, d api.Directory, valid bool) {
	t.Helper()
	want := api.ErrDirForm
	if valid {
		want = api.OK
	}
	if e := directory.Check(d); e != want {
		t.Fatalf("P10.1: Check of %s is %d; want %d", brief(d), e, want)
	}
	if valid {
		return
	}
	mustRefuse(t, d, seal(max(1, min(200, d.Epoch)%200+1)), api.ErrDirForm)
	if r, e := directory.Root(d, 1); r != (api.Digest{}) || e != api.ErrDirForm {
		t.Fatalf("P10.3: Root of %s is %x, %d; want zero, ErrDirForm", brief(d), r, e)
	}
	if l, x, e := directory.Look(d, "a", 1); len(l) > 0 || !isZeroProof(x) || e != api.ErrDirForm {
		t.Fatalf("P10.3: Look of %s is %v, %v, %d; want nothing, zero, ErrDirForm", brief(d), l, x, e)
	}
}

func TestCheckOfSamples(t *testing.T) {
	for _, x := range samples() {
		t.Run(x.name, func(t *testing.T) { mustCheck(t, x.d, true) })
	}
	for _, x := range spoilt() {
		t.Run(x.name, func(t *testing.T) { mustCheck(t, x.d, false) })
	}
}

func TestCheckOfEpochs(t *testing.T) {
	for epoch := -3; epoch <= 300; epoch++ {
		mustCheck(t, api.Directory{Epoch: epoch}, 0 <= epoch && epoch <= 200)
	}
	for _, epoch := range far {
		mustCheck(t, api.Directory{Epoch: epoch}, false)
		mustCheck(t, api.Directory{Epoch: epoch, Users: crowd(1), Sessions: []api.Session{{Client: 1, Seq: 1, Epoch: epoch}}}, false)
	}
}

func TestCheckOfManyUsers(t *testing.T) {
	for n := range 70 {
		mustCheck(t, api.Directory{Users: crowd(n)}, n <= 64)
	}
	mustCheck(t, api.Directory{Users: make([]api.User, 65)}, false)
	mustCheck(t, api.Directory{Users: make([]api.User, 100000)}, false)
}

func TestCheckOfNames(t *testing.T) {
	for _, name := range names {
		mustCheck(t, api.Directory{Users: []api.User{user(name, "P")}}, true)
	}
	for n := range 70 {
		for _, c := range []string{"\x00", "a", "\xff"} {
			mustCheck(t, api.Directory{Users: []api.User{user(strings.Repeat(c, n), "P")}}, 1 <= n && n <= 32)
		}
	}
	for _, name := range noNames {
		mustCheck(t, api.Directory{Users: []api.User{user(name, "P")}}, false)
		all := append(crowd(4), user(name, "P"))
		slices.SortFunc(all, func(a, b api.User) int { return strings.Compare(a.Name, b.Name) })
		mustCheck(t, api.Directory{Users: all}, false)
	}
	for c := range 256 {
		mustCheck(t, api.Directory{Users: []api.User{user(string([]byte{byte(c)}), "P")}}, true)
	}
}

// TestCheckOfTheOrderOfUsers has each two names beside each other, ahead of, between and behind others.
func TestCheckOfTheOrderOfUsers(t *testing.T) {
	for _, a := range names {
		for _, b := range names {
			rising := bytes.Compare([]byte(a), []byte(b)) < 0
			mustCheck(t, api.Directory{Users: []api.User{user(a, "P"), user(b, "P")}}, rising)
		}
	}
	var all []api.User
	for _, name := range names {
		all = append(all, user(name, "P"))
	}
	mustCheck(t, api.Directory{Users: all}, true)
	for i := range all {
		for j := range i {
			l := slices.Clone(all)
			l[i], l[j] = l[j], l[i]
			mustCheck(t, api.Directory{Users: l}, false)
			l = slices.Clone(all)
			l[i].Name = l[j].Name
			mustCheck(t, api.Directory{Users: l}, false)
			l[i].Name, l[j].Name = all[i].Name, all[i].Name
			mustCheck(t, api.Directory{Users: l}, false)
		}
	}
	slices.Reverse(all)
	mustCheck(t, api.Directory{Users: all}, false)
}

func TestCheckOfHistories(t *testing.T) {
	for _, x := range []struct {
		epoch int
		l     []api.Version
		valid bool
	}{
		{0, nil, false}, {0, []api.Version{}, false}, {9, nil, false}, {200, []api.Version{}, false},
		{0, past("P"), true}, {0, past("PRV"), true}, {0, past("2P"), false}, {0, past("P2R"), false}, {0, past("3P"), false},
		{1, past("P"), true}, {1, past("2P"), true}, {1, past("P2R"), true}, {1, past("3P"), false}, {1, past("P3R"), false}, {1, past("P2R3R"), false}, {1, past("4P"), false},
		{5, past("P2R3R4R5R6V"), true}, {5, past("P2R3R4R5R7V"), false}, {5, past("6P"), true}, {5, past("7P"), false}, {5, past("6PV"), true}, {5, past("6P7V"), false}, {5, past("9P"), false},
		{5, past("R"), false}, {5, past("V"), false}, {5, past("PP"), false}, {5, past("PVV"), false}, {5, past("PVR"), false}, {5, past("3P2R"), false}, {5, past("6P5R"), false}, {5, past("7P5R"), false}, {5, past("0P"), false},
		{5, past("P" + strings.Repeat("R", 15)), true}, {5, past("P" + strings.Repeat("R", 16)), false}, {5, make([]api.Version, 1), false}, {5, make([]api.Version, 100000), false},
		{199, moved(past("P"), 199), true}, {199, moved(past("2P"), 199), false}, {200, moved(past("P"), 199), true}, {200, moved(past("P"), 200), false}, {198, moved(past("P"), 198), true}, {198, moved(past("P"), 199), false},
		{5, []api.Version{{Epoch: 1, Kind: api.VerPut}}, false}, {5, []api.Version{{Epoch: 1, Kind: api.VerPut, Key: strings.Repeat("k", 64)}}, true}, {5, []api.Version{{Epoch: 1, Kind: api.VerPut, Key: strings.Repeat("k", 65)}}, false}, {5, []api.Version{{Epoch: 1, Kind: 4, Key: "k"}}, false}, {5, []api.Version{{Epoch: -1, Kind: api.VerPut, Key: "k"}}, false}, {5, []api.Version{{Epoch: math.MaxInt, Kind: api.VerPut, Key: "k"}}, false},
	} {
		u := api.User{Name: "m", Versions: x.l}
		for _, users := range [][]api.User{{u}, {u, user("n", "P")}, {user("a", "P"), u}, {user("a", "P"), u, user("n", "P")}} {
			mustCheck(t, api.Directory{Epoch: x.epoch, Users: users}, x.valid)
		}
	}
}

func TestCheckOfManyHeads(t *testing.T) {
	for epoch := range 201 {
		for _, n := range []int{0, 1, epoch - 1, epoch, epoch + 1, epoch + 2} {
			if n >= 0 {
				mustCheck(t, headed(api.Directory{Epoch: epoch}, n), n <= epoch)
			}
		}
	}
	mustCheck(t, api.Directory{Epoch: 200, Heads: make([]api.Head, 100000)}, false)
	mustCheck(t, api.Directory{Epoch: 200, Heads: make([]api.Head, 1)}, false)
}

// TestCheckOfHeads changes each of some heads alone, and with all that follow it put right.
func TestCheckOfHeads(t *testing.T) {
	d := headed(api.Directory{Epoch: 200, Users: crowd(2)}, 150)
	for i := range d.Heads {
		for _, x := range []struct {
			valid  bool
			change func(h *api.Head)
		}{
			{false, func(h *api.Head) { h.Epoch++ }}, {false, func(h *api.Head) { h.Epoch-- }}, {false, func(h *api.Head) { h.Epoch = 0 }}, {false, func(h *api.Head) { h.Epoch = 201 }}, {false, func(h *api.Head) { h.Epoch = -h.Epoch }},
			{false, func(h *api.Head) { h.Prev[0] ^= 128 }}, {false, func(h *api.Head) { h.Prev[31] ^= 1 }}, {false, func(h *api.Head) { h.Prev = h.Root }}, {false, func(h *api.Head) { h.Prev = digestOf(*h) }},
			{true, func(h *api.Head) { h.Root[0] ^= 128 }}, {true, func(h *api.Head) { h.Root = api.Digest{} }}, // a valid directory's roots may be any
		} {
			l := slices.Clone(d.Heads)
			x.change(&l[i])
			mustCheck(t, api.Directory{Epoch: 200, Heads: l}, x.valid && i == len(l)-1)
			for j := i + 1; j < len(l); j++ {
				l[j].Prev = digestOf(l[j-1])
			}
			mustCheck(t, api.Directory{Epoch: 200, Heads: l}, x.valid)
		}
		if i == 0 {
			continue
		}
		for _, prev := range []api.Digest{{}, d.Heads[i-1].Prev, d.Heads[i-1].Root} {
			l := slices.Clone(d.Heads)
			if i > 1 || prev != (api.Digest{}) { // the first head's Prev is zero as well
				l[i].Prev = prev
				mustCheck(t, api.Directory{Epoch: 200, Heads: l}, false)
			}
		}
		mustCheck(t, api.Directory{Epoch: 200, Heads: d.Heads[i:]}, false)
		l := slices.Clone(d.Heads)
		l[i], l[i-1] = l[i-1], l[i]
		mustCheck(t, api.Directory{Epoch: 200, Heads: l}, false)
	}
}

func TestCheckOfTheOrderOfSessions(t *testing.T) {
	var grow func(l []api.Session)
	grow = func(l []api.Session) {
		inside := !slices.ContainsFunc(l, func(s api.Session) bool { return s.Client < 1 || s.Client > 4 })
		mustCheck(t, api.Directory{Sessions: l}, inside && rises(l, func(a, b api.Session) bool { return a.Client < b.Client }))
		if len(l) < 5 {
			for client := range 6 {
				grow(append(slices.Clone(l), api.Session{Client: client, Seq: 1}))
			}
		}
	}
	grow(nil)
	mustCheck(t, api.Directory{Sessions: make([]api.Session, 100000)}, false)
}

func TestCheckOfSessions(t *testing.T) {
	base := api.Session{Client: 2, Seq: 5, Code: api.ErrVersionNone, Epoch: 3}
	mustSession := func(s api.Session, valid bool) {
		t.Helper()
		mustCheck(t, api.Directory{Epoch: 9, Sessions: []api.Session{s}}, valid)
		mustCheck(t, api.Directory{Epoch: 9, Sessions: []api.Session{{Client: 1, Seq: 1}, s, {Client: 3, Seq: 1}}}, valid && s.Client == 2)
	}
	for client := -2; client <= 8; client++ {
		s := base
		s.Client = client
		mustSession(s, 1 <= client && client <= 4)
	}
	for _, seq := range []int{0, 1, 2, 65535, 65536, 65537, 999999, 1000000, 1000001} {
		s := base
		s.Seq = seq
		mustSession(s, 1 <= seq && seq <= 1000000)
	}
	for _, code := range []api.Errno{-1, 0, 1, 2, 200, 255, 256, 65534, 65535, 65536, 65537, 1 << 20} {
		s := base
		s.Code = code
		mustSession(s, 0 <= code && code <= 65535)
	}
	for epoch := -2; epoch <= 12; epoch++ {
		s := base
		s.Epoch = epoch
		mustSession(s, 0 <= epoch && epoch <= 9)
	}
	for _, n := range far {
		a, b, c, d := base, base, base, base
		a.Client, b.Seq, c.Code, d.Epoch = n, n, api.Errno(n), n
		for _, s := range []api.Session{a, b, c, d} {
			mustSession(s, false)
		}
	}
	for _, epoch := range []int{0, 1, 199, 200} {
		for _, other := range []int{epoch - 1, epoch, epoch + 1} {
			mustCheck(t, api.Directory{Epoch: epoch, Sessions: []api.Session{{Client: 1, Seq: 1, Epoch: other}}}, 0 <= other && other <= epoch)
		}
	}
}

// spoil changes d at random, mostly so that it isn't valid any more.
func spoil(r *rand.Rand, d *api.Directory) {
	i, j := r.Intn(1000), r.Intn(1000)
	switch k := r.Intn(14); {
	case k == 0:
		d.Epoch += r.Intn(5) - 2
	case k == 1:
		d.Heads = append(d.Heads, api.Head{Epoch: len(d.Heads) + r.Intn(2), Prev: d.Heads[len(d.Heads)-1].Prev})
	case k == 2 && len(d.Heads) > 0:
		d.Heads[i%len(d.Heads)].Epoch += r.Intn(3) - 1
	case k == 3 && len(d.Heads) > 0:
		d.Heads[i%len(d.Heads)].Root[r.Intn(32)] ^= byte(r.Intn(3))
	case k == 4 && len(d.Heads) > 0:
		d.Heads[i%len(d.Heads)].Prev[r.Intn(32)] ^= byte(r.Intn(2))
	case k == 5:
		d.Users[i%len(d.Users)].Name = slices.Concat(names, noNames[:3])[j%(len(names)+3)]
	case k == 6:
		d.Users[i%len(d.Users)], d.Users[j%len(d.Users)] = d.Users[j%len(d.Users)], d.Users[i%len(d.Users)]
	case k == 7:
		d.Users[i%len(d.Users)].Versions = past([]string{"", "P", "R", "PV", "P5R", "P6R", "6P", "5PR", "4P", "PVR"}[j%10])
	case k == 8:
		d.Users = slices.Delete(d.Users, i%len(d.Users), i%len(d.Users)+1)
	case k == 9:
		d.Sessions[i%3].Client = j % 6
	case k == 10:
		d.Sessions[i%3].Seq = []int{0, 1, 5, 1000000, 1000001}[j%5]
	case k == 11:
		d.Sessions[i%3].Code = []api.Errno{-1, 0, 51, 65535, 65536}[j%5]
	case k == 12:
		d.Sessions[i%3].Epoch = d.Epoch + []int{-6, -1, 0, 1}[j%4]
	case k == 13:
		d.Sessions[i%3], d.Sessions[j%3] = d.Sessions[j%3], d.Sessions[i%3]
	}
}

// TestCheckOfAny holds Check against the chapter's words.
func TestCheckOfAny(t *testing.T) {
	r := rand.New(rand.NewSource(10))
	found := map[bool]int{}
	for range 20000 {
		d := rich()
		for range r.Intn(4) {
			spoil(r, &d)
		}
		valid := isValid(d)
		mustCheck(t, d, valid)
		found[valid]++
	}
	if found[true] < 2000 || found[false] < 2000 {
		t.Errorf("only %d of the directories are valid, and %d aren't", found[true], found[false])
	}
}
