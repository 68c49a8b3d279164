package wire

import "tabellion/api"

// Each function here passes the fields of one structure to c, in the order of their encoding.

func command(c *coder, x *api.Command) {
	number(c, &x.Kind)
	number(c, &x.Client)
	number(c, &x.Seq)
	text(c, &x.User)
	text(c, &x.Key)
	number(c, &x.Epoch)
	digest(c, &x.Root)
}

func council(c *coder, x *api.Council) {
	list(c, &x.Voters, number[int])
	list(c, &x.Learners, number[int])
}

func entry(c *coder, x *api.Entry) {
	number(c, &x.Index)
	number(c, &x.Term)
	number(c, &x.Kind)
	command(c, &x.Command)
	council(c, &x.Council)
}

func snapshot(c *coder, x *api.Snapshot) {
	number(c, &x.Index)
	number(c, &x.Term)
	council(c, &x.Council)
	text(c, &x.Data)
}

func head(c *coder, x *api.Head) {
	number(c, &x.Epoch)
	digest(c, &x.Root)
	digest(c, &x.Prev)
}

func signed(c *coder, x *api.Signed) {
	head(c, &x.Head)
	digest(c, &x.Sign)
}

func record(c *coder, x *api.Record) {
	number(c, &x.Kind)
	number(c, &x.Term)
	number(c, &x.Vote)
	entry(c, &x.Entry)
	number(c, &x.Index)
	snapshot(c, &x.Snap)
	signed(c, &x.Signed)
}

func version(c *coder, x *api.Version) {
	number(c, &x.Epoch)
	number(c, &x.Kind)
	text(c, &x.Key)
}

func user(c *coder, x *api.User) {
	text(c, &x.Name)
	list(c, &x.Versions, version)
}

func session(c *coder, x *api.Session) {
	number(c, &x.Client)
	number(c, &x.Seq)
	number(c, &x.Code)
	number(c, &x.Epoch)
}

func directory(c *coder, x *api.Directory) {
	number(c, &x.Epoch)
	list(c, &x.Users, user)
	list(c, &x.Heads, head)
	list(c, &x.Sessions, session)
}
