package directory

import (
	"slices"
	"sort"

	"tabellion/api"
	"tabellion/path"
	"tabellion/smt"
	"tabellion/version"
)

// width is that of all digests here: the whole one.
const width = len(api.Digest{})

// book is a valid directory. Only that of a copy is modified.
type book struct{ api.Directory }

// copied returns l in memory of its own.
func copied[T any](l []T) []T {
	return append([]T(nil), l...)
}

// copyOf returns a book of a copy of d.
func copyOf(d api.Directory) book {
	users := copied(d.Users)
	for i, u := range users {
		users[i].Versions = copied(u.Versions)
	}
	return book{api.Directory{Epoch: d.Epoch, Users: users, Heads: copied(d.Heads), Sessions: copied(d.Sessions)}}
}

// user returns the place of the user, or the one where it belongs, and whether there is such a user.
func (b *book) user(name string) (int, bool) {
	i := sort.Search(len(b.Users), func(i int) bool { return b.Users[i].Name >= name })
	return i, i < len(b.Users) && b.Users[i].Name == name
}

// session returns the place of the session of the client, or the one where it belongs, and whether there is one.
func (b *book) session(client int) (int, bool) {
	i := sort.Search(len(b.Sessions), func(i int) bool { return b.Sessions[i].Client >= client })
	return i, i < len(b.Sessions) && b.Sessions[i].Client == client
}

// last returns the Seq of the last request of the client; 0 if there was none.
func (b *book) last(client int) int {
	i, found := b.session(client)
	if !found {
		return 0
	}
	return b.Sessions[i].Seq
}

// note makes s the session of its client.
func (b *book) note(s api.Session) {
	i, found := b.session(s.Client)
	if !found {
		b.Sessions = slices.Insert(b.Sessions, i, api.Session{})
	}
	b.Sessions[i] = s
}

// history returns that of the user; an empty one if there is no such user.
func (b *book) history(name string) []api.Version {
	i, found := b.user(name)
	if !found {
		return nil
	}
	return b.Users[i].Versions
}

// extend appends v to the history of the user, who may be a new one.
func (b *book) extend(name string, v api.Version) api.Errno {
	l, e := version.Next(b.history(name), v)
	if e != api.OK {
		return e
	}
	i, found := b.user(name)
	switch {
	case found:
		b.Users[i].Versions = l
	case len(b.Users) == api.MaxUsers:
		return api.ErrLimit
	default:
		b.Users = slices.Insert(b.Users, i, api.User{Name: name, Versions: l})
	}
	return api.OK
}

// sealed reports whether the epoch was sealed.
func (b *book) sealed(epoch int) bool {
	return between(epoch, 1, b.Epoch)
}

// seal seals the epoch, if it is the next one.
func (b *book) seal(epoch int) api.Errno {
	if epoch != b.Epoch+1 {
		return api.ErrDirSeal
	}
	b.Epoch = epoch
	return api.OK
}

// intend appends the head of the epoch, if it is the next one that has none and this is its root.
func (b *book) intend(epoch int, root api.Digest) api.Errno {
	if epoch != len(b.Heads)+1 || !b.sealed(epoch) || rootOf(b.leaves(epoch)) != root {
		return api.ErrDirIntent
	}
	b.Heads = append(b.Heads, api.Head{Epoch: epoch, Root: root, Prev: prevAfter(b.Heads)})
	return api.OK
}

// leaves returns those of the epoch.
func (b *book) leaves(epoch int) []api.Leaf {
	var l []api.Leaf
	for _, u := range b.Users {
		past := version.At(u.Versions, epoch)
		if len(past) == 0 {
			continue
		}
		value, _ := version.Digest(past) // what a history begins with is one
		l = append(l, api.Leaf{Path: path.Of(u.Name), Value: value})
	}
	return l
}

// rootOf returns the root of the leaves; zero if two of them have one path.
func rootOf(l []api.Leaf) api.Digest {
	d, _ := smt.Root(width, l) // beside an error stands a zero digest
	return d
}
