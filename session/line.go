package session

import (
	"wharfinger/acl"
	"wharfinger/api"
	"wharfinger/cmd"
	"wharfinger/login"
	"wharfinger/order"
	"wharfinger/path"
	"wharfinger/turn"
	"wharfinger/verb"
)

// The verbs that the gateway tells apart, or tells the server, by name.
const (
	cdupVerb = "CDUP"
	cwdVerb  = "CWD"
	passVerb = "PASS"
	userVerb = "USER"
)

// above leads out of a directory.
const above = ".."

// told is what a client's line comes to, as far as its steps have gone.
type told struct {
	work
	line  api.Line
	verb  api.Verb  // as the client told it, by which rules go
	cmd   api.Cmd   // in the one form in which the server is told it
	where string    // the path that it leads to
	to    api.End   // where a pinhole would lead to
	under api.Order // what is under way, if it goes on
	done  bool      // whether no step is left
}

// Line is a session, and all pinholes, behind a client's line, and what goes out.
func Line(s api.Sess, c api.Conf, h []api.Hole, x api.Line, now, draw int) (api.Sess, []api.Hole, []api.Out) {
	w := begun(s, c, h, now, draw)
	if w.mayGoOn() {
		w = w.or(comesTo(told{work: w, line: x}))
	}
	return w.s, w.h, w.out
}

// comesTo goes step by step, till one tells why not, or that it is done. What goes out does so in the last one alone, so that nothing has where one tells why not.
func comesTo(t told) (work, error) {
	steps := [...]func(told) (told, error){
		told.read, told.quit, told.enter, told.guard, told.place, told.rule, told.point, told.order, told.open, told.pass,
	}
	for _, step := range steps {
		next, err := step(t)
		if err != nil || next.done {
			return next.work, err
		}
		t = next
	}
	return t.work, nil
}

// read takes the line apart.
func (t told) read() (told, error) {
	c, no := cmd.Read(t.line.Text)
	switch {
	case t.line.Over:
		return t, fault{tooLong}
	case no == api.ErrForm:
		return t, fault{what}
	case no == api.ErrNone:
		return t, fault{notHere}
	case no != api.OK:
		return t, fault{notSo}
	}
	t.cmd = c
	t.verb, _ = verb.Find(c.Verb)
	return t, nil
}

// quit ends the session, however far it is.
func (t told) quit() (told, error) {
	if t.verb.Kind != api.Quit {
		return t, nil
	}
	t.work, t.done = t.say(goodbye).leave(), true
	return t, nil
}

// enter logs in, and is no matter of rules.
func (t told) enter() (told, error) {
	if t.verb.Kind != api.Enter {
		return t, nil
	}
	t.done = true
	switch t.verb.Name {
	case userVerb:
		return t.user()
	case passVerb:
		return t.password()
	}
	return t, fault{notHere}
}

func (t told) user() (told, error) {
	l, no := login.User(t.s.L, t.c.Tenants, t.cmd.Arg)
	switch no {
	case api.ErrOdd:
		return t, fault{notNow}
	case api.ErrForm:
		return t, fault{notSo}
	case api.ErrNone:
		return t, fault{noHost}
	}
	t.s.L = l
	t.work = t.goesOut(api.Out{Kind: api.Dial, Conn: t.s.ID, To: t.tenant().At})
	return t, nil
}

func (t told) password() (told, error) {
	l, no := login.Pass(t.s.L)
	if no != api.OK {
		return t, fault{notNow}
	}
	t.s.L = l
	t.work = t.ask(t.cmd)
	return t, nil
}

// guard lets nobody on who is not in.
func (t told) guard() (told, error) {
	if !isIn(t.s) {
		return t, fault{logInFirst}
	}
	return t, nil
}

// place is where the command leads to. The server is told that, so that it is held against no other path than the rules are.
func (t told) place() (told, error) {
	t.where = t.s.Cwd
	switch {
	case t.verb.Name == cdupVerb:
		t.cmd = api.Cmd{Verb: cwdVerb, Arg: above}
	case !t.verb.Path || t.cmd.Arg == "":
		return t, nil
	}
	where, no := path.Join(t.s.Cwd, t.cmd.Arg)
	if no != api.OK {
		return t, fault{notSo}
	}
	t.where, t.cmd.Arg = where, where
	return t, nil
}

// rule asks the tenant's rules, but of what stops a command that they allowed.
func (t told) rule() (told, error) {
	if t.verb.Kind != api.Stop && !acl.Allowed(t.tenant().Rules, t.verb.Name, t.where) {
		return t, fault{notAllowed}
	}
	return t, nil
}

// point is the end that the client tells.
func (t told) point() (told, error) {
	if t.verb.Kind != api.Point {
		return t, nil
	}
	to, no := turn.Point(t.cmd, t.s.Peer)
	switch no {
	case api.OK:
		t.to = to
		return t, nil
	case api.ErrKind:
		return t, fault{useOne}
	case api.ErrDeny:
		return t, fault{otherAddress}
	}
	return t, fault{notSo}
}

// order is what is under way, if the command may be so now.
func (t told) order() (told, error) {
	o, no := order.Ask(t.s.O, t.cmd)
	switch no {
	case api.OK:
		t.under = o
		return t, nil
	case api.ErrOdd:
		return t, fault{notNow}
	}
	return t, fault{notSo}
}

// open lets the server come to the end that the client told, by one of the gateway's, of which the server is told.
func (t told) open() (told, error) {
	if t.verb.Kind != api.Point {
		return t, nil
	}
	w, own, err := t.grant(t.tenant().At.Host, t.to)
	if err != nil {
		return t, err
	}
	t.work = w
	t.cmd, _ = turn.Ask(t.verb.Name, own)
	return t, nil
}

// pass tells the server the command.
func (t told) pass() (told, error) {
	t.s.O = t.under
	t.work = t.ask(t.cmd)
	switch t.verb.Kind {
	case api.Dir:
		t.s.Hold = t.where
	case api.Stop:
		t.work = t.revoke()
	}
	return t, nil
}
