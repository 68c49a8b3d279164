package directory

import (
	"tabellion/api"
	"tabellion/head"
	"tabellion/version"
)

// mostCode is the greatest code that a session may have.
const mostCode = 65535

// between reports whether n is from least to most.
func between(n, least, most int) bool {
	return least <= n && n <= most
}

// isName reports whether user is a user name.
func isName(user string) bool {
	return between(len(user), 1, api.MaxName)
}

// isEpoch reports whether an epoch may have this number.
func isEpoch(n int) bool {
	return between(n, 1, api.MaxEpoch)
}

// isFrom reports whether a client may have this number, and a request of it this Seq.
func isFrom(client, seq int) bool {
	return between(client, 1, api.MaxClients) && between(seq, 1, api.MaxSeq)
}

// isRequest reports whether c has all that a client's command has, and nothing else, leaving the key aside.
func isRequest(c api.Command) bool {
	return isFrom(c.Client, c.Seq) && isName(c.User) && c.Epoch == 0 && c.Root == api.Digest{}
}

// isPast reports whether l is what a user may have in a directory that has sealed so many epochs.
func isPast(l []api.Version, sealed int) bool {
	return len(l) > 0 && version.Check(l) == api.OK && l[len(l)-1].Epoch <= sealed+1 // the last version has the greatest epoch
}

// usersFit reports whether the users of d are those of a valid directory.
func usersFit(d api.Directory) bool {
	if len(d.Users) > api.MaxUsers {
		return false
	}
	for i, u := range d.Users {
		if !isName(u.Name) || !isPast(u.Versions, d.Epoch) {
			return false
		}
		if i > 0 && d.Users[i-1].Name >= u.Name {
			return false
		}
	}
	return true
}

// prevAfter returns what the head that follows l has as Prev. The heads of l have epochs from 1 on.
func prevAfter(l []api.Head) api.Digest {
	if len(l) == 0 {
		return api.Digest{}
	}
	d, _ := head.Digest(l[len(l)-1])
	return d
}

// headsFit reports whether the heads of d are those of a valid directory.
func headsFit(d api.Directory) bool {
	if len(d.Heads) > d.Epoch {
		return false
	}
	for i, h := range d.Heads {
		// Its place leaves only the root of a head open.
		if h != (api.Head{Epoch: i + 1, Root: h.Root, Prev: prevAfter(d.Heads[:i])}) {
			return false
		}
	}
	return true
}

// sessionsFit reports whether the sessions of d are those of a valid directory.
func sessionsFit(d api.Directory) bool {
	for i, s := range d.Sessions {
		if !isFrom(s.Client, s.Seq) || !between(int(s.Code), 0, mostCode) || !between(s.Epoch, 0, d.Epoch) {
			return false
		}
		if i > 0 && d.Sessions[i-1].Client >= s.Client {
			return false
		}
	}
	return true
}
