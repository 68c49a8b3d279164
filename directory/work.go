package directory

import "tabellion/api"

// work is a command and the book of the copy that it modifies.
type work struct {
	book
	command api.Command
}

// do executes the command.
func (w *work) do() api.Errno {
	switch c := w.command; c.Kind {
	case api.CmdSeal:
		return w.seal(c.Epoch)
	case api.CmdIntent:
		return w.intend(c.Epoch, c.Root)
	}
	return w.request()
}

// request executes a client's command, unless it was executed before.
func (w *work) request() api.Errno {
	c := w.command
	last := w.last(c.Client)
	if last > c.Seq {
		return api.ErrDirOld
	}
	if last < c.Seq {
		code := w.change()
		w.note(api.Session{Client: c.Client, Seq: c.Seq, Code: code, Epoch: w.Epoch})
	}
	return api.OK
}

// change does what a client's command asks for, if that is possible, and returns the code for its session.
func (w *work) change() api.Errno {
	if w.Epoch == api.MaxEpoch {
		return api.ErrLimit // no epoch is left in which it could be sealed
	}
	c := w.command
	return w.extend(c.User, api.Version{Epoch: w.Epoch + 1, Kind: kindOf(c.Kind), Key: c.Key})
}

// kindOf returns the kind of the version that a client's command of this kind makes.
func kindOf(k api.CmdKind) api.VerKind {
	switch k {
	case api.CmdPut:
		return api.VerPut
	case api.CmdRotate:
		return api.VerRotate
	}
	return api.VerRevoke
}
