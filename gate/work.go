package gate

import (
	"slices"

	"wharfinger/api"
	"wharfinger/data"
	"wharfinger/hole"
	"wharfinger/line"
	"wharfinger/quota"
	"wharfinger/sat"
	"wharfinger/session"
	"wharfinger/telnet"
)

// The gateway's own replies, but for those of sessions.
const (
	tooMany   = "421 Too many."
	overQuota = "552 Quota."
)

// serverLf tells that a 10 alone ends a server's line, whatever the conf tells of clients.
const serverLf = true

// Whose a connection may be.
const (
	nobodys = iota
	clients
	servers
	links
)

// work is a gateway, and what goes out.
type work struct {
	g   api.Gate
	out []api.Out
}

// open lets a client begin a session, if there is room ahead.
func (w *work) open(e api.Ev) api.Errno {
	if !isFree(w.g, e.Conn) {
		return api.ErrArg
	}
	if ahead(w.g) >= w.g.C.Pre {
		w.say(e.Conn, tooMany)
		w.shut(e.Conn)
		return api.OK
	}
	s, out := session.New(e.Conn, e.Host, w.g.Now)
	w.g.S = append(w.g.S, s)
	w.goesOut(out)
	return api.OK
}

// bytes hands on what came to whose connection it came on.
func (w *work) bytes(e api.Ev) api.Errno {
	whose, at := w.whose(e.Conn)
	switch whose {
	case clients:
		w.told(at, e)
	case servers:
		w.heard(at, e)
	case links:
		w.carried(at, e)
	default:
		return api.ErrNone
	}
	return api.OK
}

// told is what a client told.
func (w *work) told(at int, e api.Ev) {
	s := w.g.S[at]
	s.Last = w.g.Now
	state, text, _ := telnet.Strip(s.Tel, e.B)
	c, lines := line.Feed(s.C, text, api.MaxLine, w.g.C.Lf)
	s.Tel, s.C = state, c
	for _, x := range lines {
		if s.L.Phase == api.Gone {
			break
		}
		var out []api.Out
		s, w.g.H, out = session.Line(s, w.g.C, w.g.H, x, w.g.Now, e.Draw)
		w.goesOut(out)
	}
	w.keep(at, s)
}

// heard is what a server told, as long as it is that session's. Whether its tenant has room is asked once, as a session comes in once.
func (w *work) heard(at int, e api.Ev) {
	s := w.g.S[at]
	full := sessionsOf(w.g, s.L.Tenant) >= w.g.C.Tenants[s.L.Tenant].Sessions
	f, lines := line.Feed(s.S, e.B, api.MaxLine, serverLf)
	s.S = f
	for _, x := range lines {
		if s.Up != e.Conn {
			break
		}
		var out []api.Out
		s, w.g.H, out = session.Reply(s, w.g.C, w.g.H, x, w.g.Now, e.Draw, full)
		w.goesOut(out)
	}
	w.keep(at, s)
}

// keep puts a session back, or closes it, if it is gone.
func (w *work) keep(at int, s api.Sess) {
	w.g.S[at] = s
	if s.L.Phase == api.Gone {
		w.close(s.ID)
	}
}

// carried is what came on a link, as far as its session and its tenant may carry it.
func (w *work) carried(at int, e api.Ev) {
	x := w.g.X[at]
	_, of := w.whose(x.Sess)
	s := w.g.S[of]
	tenant := s.L.Tenant
	t := w.g.C.Tenants[tenant]
	m, used, all, cut := quota.Take(t.Each, s.Used, t.Quota, w.g.All[tenant], len(e.B))
	w.g.S[of].Used, w.g.All[tenant] = used, all
	x, out, room := data.Carry(x, e.Conn, quota.Cut(e.B, m))
	w.g.X[at] = x
	w.goesOut(out)
	if cut {
		w.say(s.ID, overQuota)
	}
	if cut || !room {
		w.unlink(at)
	}
}

// dialed tells who asked for somebody that he is there, or is not.
func (w *work) dialed(e api.Ev) api.Errno {
	up := nobody
	if e.Up {
		up = e.Port
	}
	whose, at := w.whose(e.Conn)
	switch {
	case e.Up && !isFree(w.g, up):
		return api.ErrArg
	case whose == clients && w.g.S[at].L.Phase == api.Dialing:
		s, out := session.Dialed(w.g.S[at], up)
		w.g.S[at] = s
		w.goesOut(out)
	case whose == links && w.g.X[at].A == e.Conn && w.g.X[at].B == nobody:
		w.joined(at, up)
	default:
		return api.ErrNone
	}
	return api.OK
}

// joined lets a link lead to whom it asked for. Without him it leads nowhere, and ends.
func (w *work) joined(at, up int) {
	if up == nobody {
		w.unlink(at)
		return
	}
	x, out, _ := data.Join(w.g.X[at], up)
	w.g.X[at] = x
	w.goesOut(out)
}

// come lets somebody through by a pinhole. That is used up also where there is no room for one more link, as it was for once.
func (w *work) come(e api.Ev) api.Errno {
	if !isFree(w.g, e.Conn) {
		return api.ErrArg
	}
	left, h, is := hole.Match(w.g.H, e.Port, e.Host, w.g.Now)
	w.g.H = left
	if !is || linksOf(w.g, h.Sess) >= api.MaxLinks {
		w.shut(e.Conn)
		return api.OK
	}
	w.g.X = append(w.g.X, api.Link{Sess: h.Sess, A: e.Conn, B: nobody})
	w.goesOut([]api.Out{{Kind: api.Dial, Conn: e.Conn, To: h.To}})
	return api.OK
}

// closed ends what cannot go on without a connection.
func (w *work) closed(e api.Ev) api.Errno {
	whose, at := w.whose(e.Conn)
	switch whose {
	case clients, servers:
		w.end(w.g.S[at])
	case links:
		w.unlink(at)
	default:
		return api.ErrNone
	}
	return api.OK
}

// tick goes on by one, and leaves nothing that is over. The sessions are gone through as they were, as those that end go out of the list.
func (w *work) tick(api.Ev) api.Errno {
	w.g.Now = sat.Add(w.g.Now, 1)
	w.g.H = hole.Sweep(w.g.H, w.g.Now)
	for _, s := range slices.Clone(w.g.S) {
		if sat.Add(s.Last, w.g.C.Idle) <= w.g.Now {
			w.end(s)
		}
	}
	return api.OK
}

// end ends a session from without.
func (w *work) end(s api.Sess) {
	_, out := session.End(s)
	w.goesOut(out)
	w.close(s.ID)
}

// close leaves nothing of a session.
func (w *work) close(id int) {
	w.g.S = slices.DeleteFunc(w.g.S, func(s api.Sess) bool { return s.ID == id })
	w.g.H = hole.Revoke(w.g.H, id)
	var left []api.Link
	for _, x := range w.g.X {
		if x.Sess != id {
			left = append(left, x)
			continue
		}
		w.goesOut(data.End(x))
	}
	w.g.X = left
}

// unlink ends a link.
func (w *work) unlink(at int) {
	w.goesOut(data.End(w.g.X[at]))
	w.g.X = slices.Delete(w.g.X, at, at+1)
}

// whose tells whose a connection is, and at which place that one stands.
func (w *work) whose(conn int) (int, int) {
	if conn <= nobody {
		return nobodys, 0
	}
	for i, s := range w.g.S {
		switch conn {
		case s.ID:
			return clients, i
		case s.Up:
			return servers, i
		}
	}
	for i, x := range w.g.X {
		if data.Has(x, conn) {
			return links, i
		}
	}
	return nobodys, 0
}

// say tells a client a reply of one line, as line's Print has it.
func (w *work) say(conn int, text string) {
	b, _ := line.Print(text, api.MaxLine)
	w.goesOut([]api.Out{{Kind: api.Send, Conn: conn, B: b}})
}

func (w *work) shut(conn int) {
	w.goesOut([]api.Out{{Kind: api.Shut, Conn: conn}})
}

func (w *work) goesOut(l []api.Out) { w.out = append(w.out, l...) }
