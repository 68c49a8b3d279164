package directory_test

import (
	"fmt"
	"math"
	"slices"
	"strings"

	"tabellion/api"
)

var (
	// names are user names, in increasing order.
	names = []string{"\x00", "\x00\x00", "\x00\x01", "\x01", "\n", " ", "A", "Z", "a", "a\x00", "a b", "aa", "ab", strings.Repeat("ab", 16), "b", strings.Repeat("y", 31), strings.Repeat("y", 32), "z", "\x7f", "\x80", "\xc0\x80", "ż", "\xff", strings.Repeat("\xff", 32)}
	// noNames are no user names.
	noNames = []string{"", strings.Repeat("y", 33), strings.Repeat("\x00", 33), strings.Repeat("\xff", 33), strings.Repeat("ż", 17), strings.Repeat("b", 64), strings.Repeat("c", 256), strings.Repeat("d", 257), strings.Repeat("e", 65537)}
	keys    = []string{"k", "l", "\x00", "\xff\xfe", "ż", strings.Repeat("x", 63), strings.Repeat("y", 64), strings.Repeat("\x00", 64)}
	noKeys  = []string{"", strings.Repeat("y", 65), strings.Repeat("\x00", 65), strings.Repeat("ż", 33), strings.Repeat("z", 128), strings.Repeat("z", 320), strings.Repeat("z", 65537)}
	// far are numbers that nothing here may have.
	far = []int{-1, -2, 1000001, 1000002, 1 << 32, 1<<32 + 1, math.MaxInt32, math.MinInt32, math.MaxInt, math.MinInt, math.MinInt + 1, math.MaxInt - 1}
)

func put(client, seq int, user, key string) api.Command {
	return api.Command{Kind: api.CmdPut, Client: client, Seq: seq, User: user, Key: key}
}

func rotate(client, seq int, user, key string) api.Command {
	return api.Command{Kind: api.CmdRotate, Client: client, Seq: seq, User: user, Key: key}
}

func revoke(client, seq int, user string) api.Command {
	return api.Command{Kind: api.CmdRevoke, Client: client, Seq: seq, User: user}
}

func seal(epoch int) api.Command {
	return api.Command{Kind: api.CmdSeal, Epoch: epoch}
}

func intent(epoch int, root api.Digest) api.Command {
	return api.Command{Kind: api.CmdIntent, Epoch: epoch, Root: root}
}

// past returns a history, written as the letters P, R and V and the digits of epochs, each of which holds from there on.
func past(s string) []api.Version {
	kinds := map[rune]api.VerKind{'P': api.VerPut, 'R': api.VerRotate, 'V': api.VerRevoke}
	var l []api.Version
	epoch := 1
	for i, c := range s {
		v := api.Version{Epoch: epoch, Kind: kinds[c], Key: fmt.Sprint("key", i)}
		switch c {
		case 'V':
			v.Key = ""
		case 'P', 'R':
		default:
			epoch = int(c - '0')
			continue
		}
		l = append(l, v)
	}
	return l
}

// user returns one with that history.
func user(name, s string) api.User {
	return api.User{Name: name, Versions: past(s)}
}

// moved returns l with all epochs changed by n.
func moved(l []api.Version, n int) []api.Version {
	l = slices.Clone(l)
	for i := range l {
		l[i].Epoch += n
	}
	return l
}

// crowd returns n users, in order, with one version each.
func crowd(n int) []api.User {
	var l []api.User
	for i := range n {
		l = append(l, user(fmt.Sprintf("user %03d", 2*i+1), "P"))
	}
	return l
}

// headed returns d with heads of the epochs 1 to n.
func headed(d api.Directory, n int) api.Directory {
	d = cloned(d)
	d.Heads = nil
	var prev api.Digest
	for epoch := 1; epoch <= n; epoch++ {
		h := api.Head{Epoch: epoch, Root: rootAt(d, epoch), Prev: prev}
		prev = digestOf(h)
		d.Heads = append(d.Heads, h)
	}
	return d
}

// rich returns a directory with some of everything: at epoch 4, with the versions of epoch 5 begun.
func rich() api.Directory {
	return headed(api.Directory{
		Epoch:    4,
		Users:    []api.User{user("\x00", "P"), user("a", "P2R3V5P"), user("a\x00", "3P"), user("aa", "PV"), user("b", "5P"), user("c", "2PRR4RR5V"), user("\xff", "4P5R")},
		Sessions: []api.Session{{Client: 1, Seq: 7, Code: api.OK, Epoch: 4}, {Client: 2, Seq: 1000000, Code: api.ErrVersionThere, Epoch: 0}, {Client: 4, Seq: 1, Code: api.ErrLimit, Epoch: 2}},
	}, 2)
}

// full returns the greatest directory: 64 users with 16 versions each, 200 heads, 4 sessions.
func full() api.Directory {
	d := api.Directory{Epoch: 200, Users: crowd(64)}
	for i := range d.Users {
		d.Users[i].Versions = moved(past("PRVPRVPRVPRVPRVP"), i%2*199)
	}
	d = headed(d, 200)
	for client := 1; client <= 4; client++ {
		d.Sessions = append(d.Sessions, api.Session{Client: client, Seq: 1000000, Code: 65535, Epoch: 200})
	}
	return d
}

// named is a directory and what it is.
type named struct {
	name string
	d    api.Directory
}

// samples are valid directories.
func samples() []named {
	empty := api.Directory{Users: []api.User{}, Heads: []api.Head{}, Sessions: []api.Session{}}
	crowded := rich()
	crowded.Users = crowd(64)
	return []named{
		{"zero", api.Directory{}}, {"empty lists", empty}, {"epoch 200 alone", api.Directory{Epoch: 200}}, {"epoch 199", headed(api.Directory{Epoch: 199, Users: crowd(3)}, 199)},
		{"one user", api.Directory{Users: crowd(1)}}, {"64 users", api.Directory{Users: crowd(64)}}, {"63 users at epoch 3", api.Directory{Epoch: 3, Users: crowd(63)}},
		{"one user, sealed", headed(api.Directory{Epoch: 1, Users: crowd(1)}, 1)}, {"rich", rich()}, {"rich, no heads", headed(rich(), 0)}, {"rich, all heads", headed(rich(), 4)},
		{"crowded", headed(crowded, 4)}, {"full", full()},
	}
}

// spoilt are directories that aren't valid, a few of each sort.
func spoilt() []named {
	var list []named
	add := func(name string, change func(d *api.Directory)) {
		d := rich()
		change(&d)
		list = append(list, named{name, d})
	}
	add("an epoch that is too low for the heads", func(d *api.Directory) { d.Epoch = 1 })
	add("an epoch that is too low for the histories", func(d *api.Directory) { d.Epoch = 3; d.Heads = nil; d.Sessions = nil })
	add("an epoch below 0", func(d *api.Directory) { *d = api.Directory{Epoch: -1} })
	add("an epoch above 200", func(d *api.Directory) { d.Epoch = 201 })
	add("too many users", func(d *api.Directory) { d.Users = crowd(65) })
	add("a user without a name", func(d *api.Directory) { d.Users[0].Name = "" })
	add("a user with a long name", func(d *api.Directory) { d.Users[1].Name = strings.Repeat("a", 33) })
	add("a user twice", func(d *api.Directory) { d.Users[3] = d.Users[2] })
	add("users out of order", func(d *api.Directory) { d.Users[4], d.Users[5] = d.Users[5], d.Users[4] })
	add("a user without versions", func(d *api.Directory) { d.Users[2].Versions = nil })
	add("a user with no history", func(d *api.Directory) { d.Users[6].Versions = past("R") })
	add("a user with a later version", func(d *api.Directory) { d.Users[0].Versions = past("6P") })
	add("too many heads", func(d *api.Directory) { *d = headed(*d, 5) })
	add("heads without the first one", func(d *api.Directory) { d.Heads = d.Heads[1:] })
	add("a head twice", func(d *api.Directory) { d.Heads[1] = d.Heads[0] })
	add("a Prev", func(d *api.Directory) { d.Heads[1].Prev[9] ^= 1 })
	add("a first Prev", func(d *api.Directory) { d.Heads = d.Heads[:1]; d.Heads[0].Prev[31] = 1 })
	add("a client twice", func(d *api.Directory) { d.Sessions[1].Client = 1 })
	add("sessions out of order", func(d *api.Directory) { slices.Reverse(d.Sessions) })
	add("client 0", func(d *api.Directory) { d.Sessions[0].Client = 0 })
	add("client 5", func(d *api.Directory) { d.Sessions[2].Client = 5 })
	add("seq 0", func(d *api.Directory) { d.Sessions[1].Seq = 0 })
	add("seq 1000001", func(d *api.Directory) { d.Sessions[1].Seq = 1000001 })
	add("a code below 0", func(d *api.Directory) { d.Sessions[2].Code = -1 })
	add("a code above 65535", func(d *api.Directory) { d.Sessions[2].Code = 65536 })
	add("a session's epoch below 0", func(d *api.Directory) { d.Sessions[0].Epoch = -1 })
	add("a session's epoch above the directory's", func(d *api.Directory) { d.Sessions[0].Epoch = 5 })
	return list
}

// commands are valid ones, of each kind.
func commands() []api.Command {
	root := rootAt(rich(), 3)
	list := []api.Command{
		put(1, 8, "a", "k"), put(1, 7, "b", "k"), put(1, 6, "c", "k"), put(2, 1000000, "a", "k"), put(3, 1, "new", "k"), put(3, 1, "b", "k"), rotate(3, 2, "b", "k"), rotate(4, 2, "aa", "l"), rotate(1, 1000000, "none", "l"), revoke(1, 9, "a"), revoke(3, 1, "\xff"), revoke(2, 3, "c"),
		seal(1), seal(4), seal(5), seal(6), seal(200), intent(1, root), intent(2, root), intent(3, root), intent(4, root), intent(4, rootAt(rich(), 4)), intent(5, root), intent(200, root), intent(3, api.Digest{}),
	}
	for _, name := range names {
		list = append(list, put(3, 1, name, "k"), rotate(3, 1, name, "k"), revoke(3, 1, name))
	}
	for _, key := range keys {
		list = append(list, put(4, 2, "aa", key), rotate(4, 2, "b", key))
	}
	return list
}

// noCommands are some that aren't valid, a few of each sort.
func noCommands() []api.Command {
	list := []api.Command{
		{}, {Client: 1, Seq: 1, User: "a", Key: "k"}, {Kind: 6, Epoch: 5}, {Kind: -1, Epoch: 5}, {Kind: 6, Client: 1, Seq: 1, User: "a", Key: "k"},
		put(0, 1, "a", "k"), put(5, 1, "a", "k"), put(1, 0, "a", "k"), put(1, 1000001, "a", "k"), rotate(-1, 1, "a", "k"), revoke(5, 1, "a"), revoke(1, 0, "a"),
		seal(0), seal(-1), seal(201), intent(0, api.Digest{}), intent(201, api.Digest{1}),
	}
	for _, name := range noNames {
		list = append(list, put(3, 1, name, "k"), rotate(3, 1, name, "k"), revoke(3, 1, name))
	}
	for _, key := range noKeys {
		list = append(list, put(4, 2, "aa", key), rotate(4, 2, "b", key))
	}
	with := func(c api.Command, change func(c *api.Command)) {
		change(&c)
		list = append(list, c)
	}
	for _, c := range []api.Command{put(3, 1, "new", "k"), rotate(3, 1, "b", "k"), revoke(3, 1, "b"), seal(5)} {
		with(c, func(c *api.Command) { c.Root[31] = 1 })
	}
	for _, c := range []api.Command{put(3, 1, "new", "k"), rotate(3, 1, "b", "k"), revoke(3, 1, "b")} {
		with(c, func(c *api.Command) { c.Epoch = 5 })
	}
	for _, c := range []api.Command{seal(5), intent(3, rootAt(rich(), 3))} {
		with(c, func(c *api.Command) { c.Client = 1 })
		with(c, func(c *api.Command) { c.Seq = 1 })
		with(c, func(c *api.Command) { c.User = "a" })
		with(c, func(c *api.Command) { c.Key = "k" })
	}
	with(revoke(3, 1, "b"), func(c *api.Command) { c.Key = "k" })
	return list
}

// brief tells d, cut if it is long.
func brief(d api.Directory) string {
	s := fmt.Sprintf("%+v", d)
	return fmt.Sprintf("%d users, %d heads, %s", len(d.Users), len(d.Heads), s[:min(len(s), 600)])
}
