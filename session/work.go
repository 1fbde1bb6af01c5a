package session

import (
	"errors"
	"slices"
	"strings"

	"wharfinger/api"
	"wharfinger/cmd"
	"wharfinger/conf"
	"wharfinger/hole"
	"wharfinger/pool"
	"wharfinger/reply"
	"wharfinger/sat"
)

// The gateway's own replies, of one line each, as reply's Print has them.
const (
	ready        = "220 Ready."
	goodbye      = "221 Goodbye."
	badServer    = "421 Bad server."
	tooMany      = "421 Too many."
	noServer     = "421 No server."
	noPort       = "425 No port."
	noAddress    = "425 No address."
	what         = "500 What?"
	tooLong      = "500 Too long."
	notSo        = "501 Not so."
	notHere      = "502 Not here."
	notNow       = "503 Not now."
	otherAddress = "504 Not that address."
	useOne       = "522 Use (1)."
	logInFirst   = "530 Log in first."
	noHost       = "530 No such host."
	notAllowed   = "550 Not allowed."
)

// lineEnd stands behind each line that goes out.
const lineEnd = "\r\n"

// fault is why something does not go on: the line by which the client is told so.
type fault struct{ line string }

func (f fault) Error() string { return f.line }

// work is a session with what it needs to go on (the conf, a time and a draw), all pinholes, and what goes out.
type work struct {
	s         api.Sess
	c         api.Conf
	h         []api.Hole
	now, draw int
	out       []api.Out
}

// begun is the work at a session of which nothing has gone out yet.
func begun(s api.Sess, c api.Conf, h []api.Hole, now, draw int) work {
	return work{s: copied(s), c: c, h: slices.Clone(h), now: now, draw: draw}
}

// mayGoOn tells whether lines come to anything.
func (w work) mayGoOn() bool {
	return May(w.s) && conf.May(w.c) && w.s.L.Tenant < len(w.c.Tenants) && w.s.L.Phase != api.Gone
}

// tenant is the one whose server the session has; none has one before it told which.
func (w work) tenant() api.Tenant { return w.c.Tenants[w.s.L.Tenant] }

// or is the work behind a step, or, if that has an error, as it was, with that told to the client.
func (w work) or(next work, err error) work {
	var f fault
	if errors.As(err, &f) {
		return w.say(f.line)
	}
	return next
}

// say tells the client lines.
func (w work) say(lines ...string) work { return w.send(w.s.ID, lines) }

// tell tells the client a reply.
func (w work) tell(r api.Reply) work {
	lines, _ := reply.Print(r)
	return w.say(lines...)
}

// ask tells the server a command.
func (w work) ask(c api.Cmd) work {
	text, _ := cmd.Print(c)
	return w.send(w.s.Up, []string{text})
}

func (w work) send(conn int, lines []string) work {
	text := strings.Join(lines, lineEnd) + lineEnd
	return w.goesOut(api.Out{Kind: api.Send, Conn: conn, B: []byte(text)})
}

func (w work) shut(conn int) work {
	return w.goesOut(api.Out{Kind: api.Shut, Conn: conn})
}

func (w work) goesOut(o api.Out) work {
	w.out = slices.Concat(w.out, []api.Out{o})
	return w
}

// end is the work with its session over.
func (w work) end() work {
	s := w.s
	w = w.shut(s.ID)
	if s.Up > nobody {
		w = w.shut(s.Up)
	}
	w.s = fresh(s.ID, s.Peer, s.Last)
	w.s.L.Phase = api.Gone
	return w
}

// leave is the work with its session over, and with it its pinholes.
func (w work) leave() work { return w.end().revoke() }

func (w work) revoke() work {
	w.h = hole.Revoke(w.h, w.s.ID)
	return w
}

// grant opens a pinhole for a peer, which leads to an end, and is the gateway's own end that the peer may come to.
func (w work) grant(peer api.Host, to api.End) (work, api.End, error) {
	t := w.tenant()
	port, is := pool.Pick(t.Low, t.High, w.draw, hole.Ports(w.h))
	h, no := hole.Grant(w.h, api.Hole{Port: port, Sess: w.s.ID, Tenant: w.s.L.Tenant, Peer: peer, To: to, Dead: sat.Add(w.now, w.c.Life)}, t.Holes)
	if !is || no != api.OK {
		return w, api.End{}, fault{noPort}
	}
	w.h = h
	return w, api.End{Host: w.c.Own, Port: port}, nil
}
