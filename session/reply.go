package session

import (
	"wharfinger/api"
	"wharfinger/login"
	"wharfinger/order"
	"wharfinger/reply"
	"wharfinger/turn"
)

// The codes of a server's replies that are more than passed on: those that tell an end, the first one by which a command is not simply done, and the one by which a server leaves.
const (
	passive  = 227
	extended = 229
	notDone  = 300
	leaves   = 421
)

// top is where a session is when it has come in.
const top = "/"

// Reply is a session, and all pinholes, behind a server's line, and what goes out.
func Reply(s api.Sess, c api.Conf, h []api.Hole, x api.Line, now, draw int, full bool) (api.Sess, []api.Hole, []api.Out) {
	w := begun(s, c, h, now, draw)
	if w.mayGoOn() && s.Up > nobody {
		w = w.take(x, full)
	}
	return w.s, w.h, w.out
}

// take gathers the line. A server that tells none of a reply is left, as nobody could tell which of its replies is of which command.
func (w work) take(x api.Line, full bool) work {
	g, r, is, no := reply.Take(w.s.G, x.Text)
	if x.Over || no != api.OK || is && !reply.May(r) {
		return w.say(badServer).leave()
	}
	w.s.G = g
	switch {
	case !is:
		return w
	case isIn(w.s):
		return w.answered(r)
	}
	return w.greeted(r, full)
}

// greeted is the work behind a reply to a login.
func (w work) greeted(r api.Reply, full bool) work {
	l, act := login.Heard(w.s.L, r.Code)
	if act == api.TellIn && full {
		return w.say(tooMany).leave()
	}
	w.s.L = l
	switch act {
	case api.TellUser:
		return w.ask(api.Cmd{Verb: userVerb, Arg: l.User})
	case api.TellOn:
		return w.tell(r)
	case api.TellOff:
		return w.tell(r).drop()
	case api.TellIn:
		w.s.Cwd = top
		return w.tell(r)
	}
	return w
}

// drop leaves the server, and keeps the client.
func (w work) drop() work {
	w = w.shut(w.s.Up)
	w.s.Up = nobody
	return w
}

// answered is the work behind a reply to a command. One that answers none is told to nobody, unless the server leaves by it.
func (w work) answered(r api.Reply) work {
	name := w.s.O.Verb
	o, ended, no := order.Heard(w.s.O, r.Code)
	switch {
	case no == api.OK:
		w.s.O = o
	case r.Code == leaves:
		return w.tell(r).leave()
	default:
		return w
	}
	kind := kindOf(name)
	if ended && kind == api.Dir && r.Code < notDone {
		w.s.Cwd = w.s.Hold
	}
	if kind == api.Listen && (r.Code == passive || r.Code == extended) {
		return w.or(w.listen(name, r))
	}
	return w.tell(r)
}

// listen lets the client come to the end that the server told, by one of the gateway's, of which the client is told.
func (w work) listen(name string, r api.Reply) (work, error) {
	to, no := turn.Listen(name, r, w.tenant().At.Host)
	if no != api.OK {
		return w, fault{noAddress}
	}
	w, own, err := w.grant(w.s.Peer, to)
	if err != nil {
		return w, err
	}
	r, _ = turn.Tell(name, own)
	return w.tell(r), nil
}
