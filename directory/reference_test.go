package directory_test

import (
	"crypto/sha256"
	"encoding/binary"
	"maps"
	"slices"
	"testing"

	"tabellion/api"
	"tabellion/directory"
	"tabellion/version"
)

// rises reports whether l is in strictly increasing order by less.
func rises[T any](l []T, less func(a, b T) bool) bool {
	for i := range l {
		for j := range i {
			if !less(l[j], l[i]) {
				return false
			}
		}
	}
	return true
}

// isUserName is the chapter's 'a user name'.
func isUserName(s string) bool {
	return s != "" && len(s) < 33
}

// isValid is the chapter's 'a directory is valid'. Orders are held against all pairs.
func isValid(d api.Directory) bool {
	if d.Epoch < 0 || d.Epoch > 200 || len(d.Users) > 64 || len(d.Heads) > d.Epoch || len(d.Sessions) > 4 {
		return false // of sessions in their order there are at most 4
	}
	for _, u := range d.Users {
		late := func(v api.Version) bool { return v.Epoch > d.Epoch+1 }
		if !isUserName(u.Name) || len(u.Versions) == 0 || version.Check(u.Versions) != api.OK || slices.ContainsFunc(u.Versions, late) {
			return false
		}
	}
	var prev api.Digest
	for i, h := range d.Heads {
		if h.Epoch != i+1 || h.Prev != prev {
			return false
		}
		prev = digestOf(h)
	}
	for _, s := range d.Sessions {
		if s.Client < 1 || s.Client > 4 || s.Seq < 1 || s.Seq > 1000000 || s.Code < 0 || s.Code > 65535 || s.Epoch < 0 || s.Epoch > d.Epoch {
			return false
		}
	}
	return rises(d.Users, func(a, b api.User) bool { return slices.Compare([]byte(a.Name), []byte(b.Name)) < 0 }) &&
		rises(d.Sessions, func(a, b api.Session) bool { return a.Client < b.Client })
}

// isCommand is the chapter's 'a command is valid'.
func isCommand(c api.Command) bool {
	fromClient := c.Kind == 1 || c.Kind == 2 || c.Kind == 3
	withKey := c.Kind == 1 || c.Kind == 2
	withEpoch := c.Kind == 4 || c.Kind == 5
	if fromClient && (c.Client < 1 || c.Client > 4 || c.Seq < 1 || c.Seq > 1000000 || !isUserName(c.User)) {
		return false
	}
	if !fromClient && (c.Client != 0 || c.Seq != 0 || c.User != "") {
		return false
	}
	if withKey && (c.Key == "" || len(c.Key) > 64) || !withKey && c.Key != "" {
		return false
	}
	if withEpoch && (c.Epoch < 1 || c.Epoch > 200) || !withEpoch && c.Epoch != 0 {
		return false
	}
	return (fromClient || withEpoch) && (c.Kind == 5 || c.Root == api.Digest{})
}

// digestOf is the digest of h by chapter 9.
func digestOf(h api.Head) api.Digest {
	b := binary.AppendUvarint(nil, uint64(h.Epoch))
	return sha256.Sum256(append(append(b, h.Root[:]...), h.Prev[:]...))
}

// valueOf is the digest of a history by chapter 7.
func valueOf(l []api.Version) api.Digest {
	b := binary.AppendUvarint(nil, uint64(len(l)))
	for _, v := range l {
		b = binary.AppendUvarint(b, uint64(v.Epoch))
		b = binary.AppendUvarint(b, uint64(v.Kind))
		b = binary.AppendUvarint(b, uint64(len(v.Key)))
		b = append(b, v.Key...)
	}
	return sha256.Sum256(b)
}

// digestAt is the digest of the leaves at a depth, by chapter 5.
func digestAt(l []api.Leaf, depth int) api.Digest {
	switch len(l) {
	case 0:
		return sha256.Sum256([]byte{2})
	case 1:
		return sha256.Sum256(slices.Concat([]byte{0}, l[0].Path[:], l[0].Value[:]))
	}
	var sides [2][]api.Leaf
	for _, x := range l {
		bit := x.Path[depth/8] >> (7 - depth%8) & 1
		sides[bit] = append(sides[bit], x)
	}
	left, right := digestAt(sides[0], depth+1), digestAt(sides[1], depth+1)
	return sha256.Sum256(slices.Concat([]byte{1}, left[:], right[:]))
}

// upTo returns the versions of l whose epoch is at most the given one.
func upTo(l []api.Version, epoch int) []api.Version {
	return slices.DeleteFunc(slices.Clone(l), func(v api.Version) bool { return v.Epoch > epoch })
}

// leavesAt is the chapter's 'the leaves of an epoch'.
func leavesAt(d api.Directory, epoch int) []api.Leaf {
	var l []api.Leaf
	for _, u := range d.Users {
		if past := upTo(u.Versions, epoch); len(past) > 0 {
			l = append(l, api.Leaf{Path: sha256.Sum256([]byte(u.Name)), Value: valueOf(past)})
		}
	}
	return l
}

// rootAt is the chapter's 'the root of an epoch'.
func rootAt(d api.Directory, epoch int) api.Digest {
	return digestAt(leavesAt(d, epoch), 0)
}

// historyOf returns the history of the user; nothing if there is no such user.
func historyOf(d api.Directory, name string) []api.Version {
	for _, u := range d.Users {
		if u.Name == name {
			return u.Versions
		}
	}
	return nil
}

// sessionOf returns the session of the client; a zero one if there is none.
func sessionOf(d api.Directory, client int) api.Session {
	for _, s := range d.Sessions {
		if s.Client == client {
			return s
		}
	}
	return api.Session{}
}

// cloned returns a copy of d with lists of its own.
func cloned(d api.Directory) api.Directory {
	d.Users, d.Heads, d.Sessions = slices.Clone(d.Users), slices.Clone(d.Heads), slices.Clone(d.Sessions)
	for i := range d.Users {
		d.Users[i].Versions = slices.Clone(d.Users[i].Versions)
	}
	return d
}

// requested is P10.2 for a client's command. Users and sessions are kept by name and by client, and put in order at the end.
func requested(d api.Directory, c api.Command) (api.Directory, api.Errno) {
	users, sessions := map[string][]api.Version{}, map[int]api.Session{}
	for _, u := range d.Users {
		users[u.Name] = u.Versions
	}
	for _, s := range d.Sessions {
		sessions[s.Client] = s
	}
	if old := sessions[c.Client].Seq; old > c.Seq {
		return api.Directory{}, api.ErrDirOld
	} else if old == c.Seq {
		return d, api.OK
	}
	l, code := version.Next(users[c.User], api.Version{Epoch: d.Epoch + 1, Kind: api.VerKind(c.Kind), Key: c.Key})
	if d.Epoch == 200 {
		code = api.ErrLimit
	}
	if code == api.OK && users[c.User] == nil && len(users) == 64 {
		code = api.ErrLimit
	}
	if code == api.OK {
		users[c.User] = l
	}
	sessions[c.Client] = api.Session{Client: c.Client, Seq: c.Seq, Code: code, Epoch: d.Epoch}
	d.Users, d.Sessions = nil, nil
	for _, name := range slices.Sorted(maps.Keys(users)) {
		d.Users = append(d.Users, api.User{Name: name, Versions: users[name]})
	}
	for _, client := range slices.Sorted(maps.Keys(sessions)) {
		d.Sessions = append(d.Sessions, sessions[client])
	}
	return d, api.OK
}

// applied is P10.2.
func applied(d api.Directory, c api.Command) (api.Directory, api.Errno) {
	if !isValid(d) || !isCommand(c) {
		return api.Directory{}, api.ErrDirForm
	}
	d = cloned(d)
	switch c.Kind {
	case api.CmdSeal:
		if c.Epoch != d.Epoch+1 {
			return api.Directory{}, api.ErrDirSeal
		}
		d.Epoch++
		return d, api.OK
	case api.CmdIntent:
		if c.Epoch != len(d.Heads)+1 || c.Epoch > d.Epoch || c.Root != rootAt(d, c.Epoch) {
			return api.Directory{}, api.ErrDirIntent
		}
		h := api.Head{Epoch: c.Epoch, Root: c.Root}
		if c.Epoch > 1 {
			h.Prev = digestOf(d.Heads[c.Epoch-2])
		}
		d.Heads = append(d.Heads, h)
		return d, api.OK
	}
	return requested(d, c)
}

// same reports whether a and b are the same directory; a list without elements may be nil.
func same(a, b api.Directory) bool {
	return a.Epoch == b.Epoch && slices.Equal(a.Heads, b.Heads) && slices.Equal(a.Sessions, b.Sessions) &&
		slices.EqualFunc(a.Users, b.Users, func(u, v api.User) bool { return u.Name == v.Name && slices.Equal(u.Versions, v.Versions) })
}

// isZero reports whether d is the zero directory.
func isZero(d api.Directory) bool {
	return same(d, api.Directory{})
}

// TestReference: the reference accepts and refuses what it is meant to.
func TestReference(t *testing.T) {
	for _, x := range samples() {
		if !isValid(x.d) {
			t.Errorf("the reference refuses %s", x.name)
		}
	}
	for _, x := range spoilt() {
		if isValid(x.d) {
			t.Errorf("the reference accepts %s", x.name)
		}
	}
	for _, c := range commands() {
		if !isCommand(c) {
			t.Errorf("the reference refuses %+v", c)
		}
	}
	for _, c := range noCommands() {
		if isCommand(c) {
			t.Errorf("the reference accepts %+v", c)
		}
	}
}

// mustApply returns what Apply does, and fails if that isn't what the chapter says.
func mustApply(t *testing.T, d api.Directory, c api.Command) (api.Directory, api.Errno) {
	t.Helper()
	got, e := directory.Apply(d, c)
	want, f := applied(d, c)
	if !same(got, want) || e != f {
		t.Fatalf("P10.2: Apply of %+v to %s is %s, %d; want %s, %d", c, brief(d), brief(got), e, brief(want), f)
	}
	return got, e
}

// mustRefuse fails if Apply isn't refused with want.
func mustRefuse(t *testing.T, d api.Directory, c api.Command, want api.Errno) {
	t.Helper()
	if got, e := directory.Apply(d, c); !isZero(got) || e != want {
		t.Fatalf("P10.2: Apply of %+v to %s is %s, %d; want zero, %d", c, brief(d), brief(got), e, want)
	}
}

// mustGet returns what Apply of the commands to d, one after the other, returns at the end; it fails if one of them is refused.
func mustGet(t *testing.T, d api.Directory, l ...api.Command) api.Directory {
	t.Helper()
	for _, c := range l {
		next, e := mustApply(t, d, c)
		if e != api.OK {
			t.Fatalf("P10.2: Apply of %+v to %s is %d; want OK", c, brief(d), e)
		}
		d = next
	}
	return d
}

// TestReferenceRoot: of users in whatever order, the reference's root is the same.
func TestReferenceRoot(t *testing.T) {
	d := rich()
	want := rootAt(d, 3)
	slices.Reverse(d.Users)
	if rootAt(d, 3) != want || rootAt(d, 2) == want {
		t.Error("the reference's root depends on an order, or not on the epoch")
	}
}
