package gate

import (
	"fmt"
	"math/rand"
	"slices"
	"strings"
	"testing"

	"wharfinger/api"
	"wharfinger/conf"
	"wharfinger/data"
	"wharfinger/hole"
	"wharfinger/line"
	"wharfinger/session"
	"wharfinger/telnet"
)

// role is what a connection is: ID, Up, A or B, and of which place.
type role struct {
	as string
	at int
}

// roles are all connections by what they are, and how many there are, each counted as often as it is used.
func roles(g api.Gate) (map[int]role, int) {
	all, n := map[int]role{}, 0
	add := func(conn int, as string, at int) {
		if conn >= 0 {
			all[conn] = role{as, at}
			n++
		}
	}
	for i, s := range g.S {
		add(s.ID, "ID", i)
		add(s.Up, "Up", i)
	}
	for i, x := range g.X {
		add(x.A, "A", i)
		add(x.B, "B", i)
	}
	return all, n
}

// wantMay is May as the tests have it: by what is wrong.
func wantMay(g api.Gate) bool {
	if conf.Check(g.C) != nil {
		return false
	}
	bad := 0
	wrong := func(is bool) {
		if is {
			bad++
		}
	}
	wrong(g.Now < 0 || g.Now > maxTaken || len(g.All) != len(g.C.Tenants))
	for _, n := range g.All {
		wrong(n < 0 || n > maxTaken)
	}
	ahead, of, in := 0, map[int]int{}, map[int]int{}
	for _, s := range g.S {
		wrong(!session.May(s) || s.L.Tenant >= len(g.C.Tenants) || s.L.Phase == atGone)
		if s.L.Phase != atIn {
			ahead++
			continue
		}
		of[s.L.Tenant]++
		in[s.ID] = s.L.Tenant
	}
	wrong(ahead > g.C.Pre)
	holes, ports := map[int]int{}, map[int]bool{}
	for _, h := range g.H {
		tenant, is := in[h.Sess]
		wrong(!hole.May(h) || !is || tenant != h.Tenant || ports[h.Port])
		wrong(g.Now != maxTaken && g.Now >= h.Dead)
		holes[h.Tenant]++
		ports[h.Port] = true
	}
	for i, x := range g.C.Tenants {
		wrong(of[i] > x.Sessions || holes[i] > x.Holes)
	}
	links := map[int]int{}
	for _, x := range g.X {
		_, is := in[x.Sess]
		links[x.Sess]++
		wrong(!data.May(x) || !is || links[x.Sess] > 2)
	}
	all, n := roles(g)
	wrong(len(all) != n)
	return bad == 0
}

// model is what a gateway comes to as the tests have it.
type model struct {
	g   api.Gate
	out []string
}

func (m *model) goes(l ...string) { m.out = append(m.out, l...) }

// unlink ends the links of some places, in order.
func (m *model) unlink(at ...int) {
	for _, i := range at {
		m.goes(shut(m.g.X[i].A))
		if m.g.X[i].B >= 0 {
			m.goes(shut(m.g.X[i].B))
		}
	}
	m.g.X = without(m.g.X, at...)
}

// forget leaves nothing of the session at a place, from which what went out had gone.
func (m *model) forget(at int) {
	id := m.g.S[at].ID
	var left []api.Hole
	for _, h := range m.g.H {
		if h.Sess != id {
			left = append(left, h)
		}
	}
	var links []int
	for i, x := range m.g.X {
		if x.Sess == id {
			links = append(links, i)
		}
	}
	m.g.S, m.g.H = without(m.g.S, at), left
	m.unlink(links...)
}

// end ends the session at a place.
func (m *model) end(at int) {
	s := m.g.S[at]
	m.goes(shut(s.ID))
	if s.Up >= 0 {
		m.goes(shut(s.Up))
	}
	m.forget(at)
}

// client and server are what lines of both come to.
func (m *model) client(at int, e api.Ev) {
	s := &m.g.S[at]
	s.Last = m.g.Now
	tel, text, _ := telnet.Strip(s.Tel, e.B)
	f, lines := line.Feed(s.C, text, 512, m.g.C.Lf)
	s.Tel, s.C = tel, f
	for _, x := range lines {
		if s.L.Phase != atGone {
			next, h, out := session.Line(*s, m.g.C, m.g.H, x, m.g.Now, e.Draw)
			*s, m.g.H = next, h
			m.goes(texts(out)...)
		}
	}
	if s.L.Phase == atGone {
		m.forget(at)
	}
}

func (m *model) server(at int, e api.Ev) {
	s := &m.g.S[at]
	f, lines := line.Feed(s.S, e.B, 512, true)
	s.S = f
	for _, x := range lines {
		of := 0
		for _, y := range m.g.S {
			if y.L.Phase == atIn && y.L.Tenant == s.L.Tenant {
				of++
			}
		}
		if s.Up == e.Conn {
			next, h, out := session.Reply(*s, m.g.C, m.g.H, x, m.g.Now, e.Draw, of == m.g.C.Tenants[s.L.Tenant].Sessions)
			*s, m.g.H = next, h
			m.goes(texts(out)...)
		}
	}
	if s.L.Phase == atGone {
		m.forget(at)
	}
}

// link is what bytes on a link come to.
func (m *model) link(r role, e api.Ev) {
	x := &m.g.X[r.at]
	at, _ := roles(m.g)
	s := &m.g.S[at[x.Sess].at]
	t := m.g.C.Tenants[s.L.Tenant]
	n := max(0, min(len(e.B), t.Each-s.Used, t.Quota-m.g.All[s.L.Tenant]))
	s.Used += n
	m.g.All[s.L.Tenant] += n
	cut, room := n < len(e.B), true
	to := x.A
	if r.as == "A" {
		to = x.B
	}
	switch {
	case n == 0:
	case to >= 0:
		m.goes(sent(to, string(e.B[:n])))
	case len(x.Wait) == 4:
		room = false
	default:
		x.Wait = append(x.Wait, e.B[:n])
	}
	if cut {
		m.goes(said(s.ID, "552 Quota."))
	}
	if cut || !room {
		m.unlink(r.at)
	}
}

func (m *model) dialed(r role, e api.Ev) api.Errno {
	all, _ := roles(m.g)
	if _, is := all[e.Port]; e.Up && (is || e.Port < 0) {
		return 1
	}
	up := e.Port
	if !e.Up {
		up = -1
	}
	switch {
	case r.as == "ID" && m.g.S[r.at].L.Phase == atDialing:
		s, out := session.Dialed(m.g.S[r.at], up)
		m.g.S[r.at] = s
		m.goes(texts(out)...)
	case r.as == "A" && m.g.X[r.at].B == -1 && up < 0:
		m.unlink(r.at)
	case r.as == "A" && m.g.X[r.at].B == -1:
		for _, b := range m.g.X[r.at].Wait {
			m.goes(sent(up, string(b)))
		}
		m.g.X[r.at].B, m.g.X[r.at].Wait = up, nil
	default:
		return 3
	}
	return 0
}

func (m *model) come(e api.Ev) {
	for i, h := range m.g.H {
		if h.Port != e.Port || h.Peer != e.Host || h.Dead <= m.g.Now {
			continue
		}
		m.g.H = without(m.g.H, i)
		links := 0
		for _, x := range m.g.X {
			if x.Sess == h.Sess {
				links++
			}
		}
		if links < 2 {
			m.g.X = append(m.g.X, api.Link{Sess: h.Sess, A: e.Conn, B: -1})
			m.goes(dial(e.Conn, h.To))
			return
		}
		break
	}
	m.goes(shut(e.Conn))
}

func (m *model) tick() {
	m.g.Now = min(m.g.Now+1, maxTaken)
	var left []api.Hole
	for _, h := range m.g.H {
		if h.Dead > m.g.Now {
			left = append(left, h)
		}
	}
	m.g.H = left
	for i := 0; i < len(m.g.S); {
		if min(m.g.S[i].Last+m.g.C.Idle, maxTaken) > m.g.Now {
			i++
			continue
		}
		m.end(i)
	}
}

func (m *model) open(e api.Ev) {
	ahead := 0
	for _, s := range m.g.S {
		if s.L.Phase < atIn {
			ahead++
		}
	}
	if ahead == m.g.C.Pre {
		m.goes(said(e.Conn, "421 Too many."), shut(e.Conn))
		return
	}
	s, out := session.New(e.Conn, e.Host, m.g.Now)
	m.g.S = append(m.g.S, s)
	m.goes(texts(out)...)
}

// wantDo is Do as the tests have it.
func wantDo(g api.Gate, e api.Ev) (api.Gate, []string, api.Errno) {
	if !wantMay(g) || e.Kind < 0 || e.Kind > 5 {
		return api.Gate{}, nil, 1
	}
	m := &model{g: norm(g)}
	all, _ := roles(m.g)
	r, is := all[e.Conn]
	var no api.Errno
	switch {
	case e.Kind == aTick:
		m.tick()
	case e.Kind == aDialed:
		no = m.dialed(r, e)
	case (e.Kind == anOpen || e.Kind == aCome) && (is || e.Conn < 0):
		no = 1
	case e.Kind == anOpen:
		m.open(e)
	case e.Kind == aCome:
		m.come(e)
	case !is:
		no = 3
	case e.Kind == aClosed && (r.as == "ID" || r.as == "Up"):
		m.end(r.at)
	case e.Kind == aClosed:
		m.unlink(r.at)
	case r.as == "ID":
		m.client(r.at, e)
	case r.as == "Up":
		m.server(r.at, e)
	default:
		m.link(r, e)
	}
	if no != 0 {
		return api.Gate{}, nil, no
	}
	return m.g, m.out, 0
}

func pick[T any](r *rand.Rand, l ...T) T { return l[r.Intn(len(l))] }

// clientLine is a line that leads a client on, mostly.
func clientLine(r *rand.Rand, s api.Sess) string {
	if r.Intn(8) == 0 {
		return pick(r, "", "x", "SITE x", "USER me@ftp.a", "PASS x", "QUIT", "ABOR", "CDUP", "STOR /pub/x", strings.Repeat("x", 511), strings.Repeat("x", 513))
	}
	switch s.L.Phase {
	case atNeedUser:
		return pick(r, "USER me@ftp.a", "USER you@ftp.b", "user me@ftp.a", "USER me")
	case atNeedPass:
		return "PASS x"
	case atIn:
		p := s.Peer
		return pick(r, "PASV", "EPSV", "PASV", "EPSV", "NOOP", "CWD x", "RETR f", "STOR f", "LIST", "ABOR", fmt.Sprintf("PORT %d,%d,%d,%d,8,0", p[0], p[1], p[2], p[3]), fmt.Sprintf("EPRT |1|%d.%d.%d.%d|3000|", p[0], p[1], p[2], p[3]), "PORT 10,0,0,7,8,0", "RETR ../../x")
	}
	return pick(r, "NOOP", "LIST", "USER me@ftp.a")
}

// serverLine is a server's, likewise.
func serverLine(r *rand.Rand, g api.Gate, s api.Sess) string {
	if s.G.Open {
		return pick(r, "more", fmt.Sprintf("%d end", s.G.Code))
	}
	if r.Intn(25) == 0 {
		return pick(r, "421 off", "x", "", "530 no", "150 on", "220-hi", "227 none", "550 no", "230 in", strings.Repeat("2", 513))
	}
	at := g.C.Tenants[s.L.Tenant].At.Host
	switch {
	case s.L.Phase == atGreet:
		return pick(r, "220 hi", "220 hi", "220-hi", "120 wait")
	case s.L.Phase == atUserSent:
		return pick(r, "230 in", "331 so?", "331 so?", "232 in")
	case s.L.Phase == atPassSent:
		return pick(r, "230 in", "230 in", "530 no")
	case s.O.Verb == "PASV":
		return fmt.Sprintf("227 ok (%d,%d,%d,%d,%d,0)", at[0], at[1], at[2], at[3], 4+r.Intn(90))
	case s.O.Verb == "EPSV":
		return fmt.Sprintf("229 ok (|||%d|)", 2000+r.Intn(9999))
	}
	return pick(r, "200 ok", "250 ok", "226 ok", "150 on", "550 no")
}

// cutUp is some lines, of which the last one may be a part, and what is no text among them.
func cutUp(r *rand.Rand, next func() string, telnets bool) []byte {
	s := ""
	for range 1 + r.Intn(2)*r.Intn(3) {
		s += next() + pick(r, "\r\n", "\r\n", "\r\n", "\r\n", "\n", "")
	}
	if telnets && r.Intn(8) == 0 && s != "" {
		at := r.Intn(len(s))
		s = s[:at] + pick(r, "\xff\xfd\x01", "\xff\xf2", "\xff\xff", "\xff", "\xff\xfb") + s[at:]
	}
	if r.Intn(15) == 0 {
		s = s[:r.Intn(len(s)+1)]
	}
	return []byte(s)
}

// anyConn is one that is used, mostly.
func anyConn(r *rand.Rand, g api.Gate) int {
	all, _ := roles(g)
	var l []int
	for conn := range all {
		l = append(l, conn)
	}
	slices.Sort(l)
	if len(l) == 0 || r.Intn(8) == 0 {
		return pick(r, -1, -2, 0, 1000, r.Intn(60))
	}
	return pick(r, l...)
}

// freeConn is one that is not, mostly.
func freeConn(r *rand.Rand, g api.Gate) int {
	if r.Intn(12) == 0 {
		return anyConn(r, g)
	}
	all, _ := roles(g)
	for {
		conn := r.Intn(80)
		if _, is := all[conn]; !is {
			return conn
		}
	}
}

// chunk are bytes of any kind.
func chunk(r *rand.Rand) []byte {
	b := make([]byte, r.Intn(7))
	r.Read(b)
	return b
}

// someBytes are such as whose connection they come on would tell, mostly.
func someBytes(r *rand.Rand, g api.Gate) api.Ev {
	e := api.Ev{Kind: aBytes, Conn: anyConn(r, g), B: chunk(r), Draw: r.Intn(9) - 4}
	all, _ := roles(g)
	x, is := all[e.Conn]
	switch {
	case is && x.as == "ID":
		e.B = cutUp(r, func() string { return clientLine(r, g.S[x.at]) }, true)
	case is && x.as == "Up":
		e.B = cutUp(r, func() string { return serverLine(r, g, g.S[x.at]) }, false)
	}
	return e
}

// someEvent is one by chance, such as leads on, mostly.
func someEvent(r *rand.Rand, g api.Gate) api.Ev {
	hosts := []api.Host{me, you, serverA, serverB}
	var asked []int
	for _, s := range g.S {
		if s.L.Phase == atDialing {
			asked = append(asked, s.ID)
		}
	}
	for _, x := range g.X {
		if x.B < 0 {
			asked = append(asked, x.A)
		}
	}
	switch n := r.Intn(40); {
	case n < 4:
		return api.Ev{Kind: anOpen, Conn: freeConn(r, g), Host: pick(r, me, you)}
	case n < 9 && len(asked) > 0:
		return api.Ev{Kind: aDialed, Conn: pick(r, asked...), Port: freeConn(r, g), Up: r.Intn(6) > 0}
	case n < 12 && len(g.H) > 0:
		h := pick(r, g.H...)
		e := comes(freeConn(r, g), h.Peer, h.Port)
		if r.Intn(5) == 0 {
			e.Host = pick(r, hosts...)
		}
		return e
	case n == 12:
		return comes(freeConn(r, g), pick(r, hosts...), pick(r, 2000, 2001, 2002, 3000, 3001))
	case n == 13:
		return closes(anyConn(r, g))
	case n == 14:
		return api.Ev{Kind: aTick}
	case n == 15:
		return api.Ev{Kind: r.Intn(9) - 1, Conn: anyConn(r, g), Port: anyConn(r, g), Host: pick(r, hosts...), Up: r.Intn(2) > 0, B: chunk(r), Draw: r.Intn(9)}
	}
	return someBytes(r, g)
}

// someConf is one by chance in which little goes on till it is too much.
func someConf(r *rand.Rand) api.Conf {
	c := theConf()
	c.Pre, c.Life, c.Idle, c.Lf = 1+r.Intn(3), 1+r.Intn(6), 2+r.Intn(20), r.Intn(2) > 0
	for i := range c.Tenants {
		x := &c.Tenants[i]
		x.Sessions, x.Holes, x.Each, x.Quota = 1+r.Intn(3), 1+r.Intn(3), r.Intn(60), r.Intn(200)
	}
	return c
}

// past is a gateway with what it carried, and for whom, kept beside it.
type past struct {
	g              api.Gate
	each, all      map[int]int
	carried, dials int
}

// check tells what P22.4 wants of one event, beside that what may be stays so.
func (p *past) check(t *testing.T, e api.Ev, next api.Gate, out []api.Out) {
	t.Helper()
	was := p.g
	if !May(next) || !wantMay(next) {
		t.Fatalf("%+v: %s may not be", e, show(next))
	}
	for _, o := range out {
		if o.Kind == 2 {
			p.asked(t, e, next, o)
		}
		if o.Kind == 0 {
			p.sent(t, next, o)
		}
	}
	for id, n := range p.each {
		s := slices.IndexFunc(next.S, func(s api.Sess) bool { return s.ID == id })
		if s < 0 {
			delete(p.each, id)
			continue
		}
		if tenant := next.S[s].L.Tenant; n > was.C.Tenants[tenant].Each {
			t.Fatalf("%+v: session %d carried %d, and %s", e, id, n, show(next))
		}
	}
	for i, n := range p.all {
		if n > was.C.Tenants[i].Quota || n > next.All[i] {
			t.Fatalf("%+v: tenant %d carried %d, and %s", e, i, n, show(next))
		}
	}
	p.left(t, e, next, out)
	p.g = next
}

// asked: somebody comes by a pinhole that is live, as its peer, which is no more then, and leads there; or it is a tenant's server.
func (p *past) asked(t *testing.T, e api.Ev, next api.Gate, o api.Out) {
	t.Helper()
	p.dials++
	if e.Kind == aBytes {
		servers := []api.End{{Host: serverA, Port: 21}, {Host: serverB, Port: 2121}}
		if o.Conn != e.Conn || !slices.Contains(servers, o.To) {
			t.Fatalf("%+v: %+v", e, o)
		}
		return
	}
	at := slices.IndexFunc(p.g.H, func(h api.Hole) bool { return h.Port == e.Port })
	if e.Kind != aCome || at < 0 {
		t.Fatalf("%+v: %+v", e, o)
	}
	h := p.g.H[at]
	is := h.Peer == e.Host && h.Dead > p.g.Now && o.To == h.To && o.Conn == e.Conn && h.To.Port >= 1024
	if !is || !slices.Equal(next.H, without(p.g.H, at)) {
		t.Fatalf("%+v by %+v: %+v", e, h, o)
	}
}

// sent counts what goes out by a link, as it was or as it is.
func (p *past) sent(t *testing.T, next api.Gate, o api.Out) {
	t.Helper()
	for _, g := range []api.Gate{p.g, next} {
		for _, x := range g.X {
			if x.A != o.Conn && x.B != o.Conn {
				continue
			}
			s := slices.IndexFunc(p.g.S, func(s api.Sess) bool { return s.ID == x.Sess })
			p.each[x.Sess] += len(o.B)
			p.all[p.g.S[s].L.Tenant] += len(o.B)
			p.carried += len(o.B)
			return
		}
	}
}

// left: with a session all that is its goes, each connection is shut, and what is over at a tick is gone.
func (p *past) left(t *testing.T, e api.Ev, next api.Gate, out []api.Out) {
	t.Helper()
	now, _ := roles(next)
	was, _ := roles(p.g)
	for conn := range was {
		_, is := now[conn]
		gone := slices.ContainsFunc(out, func(o api.Out) bool { return o.Kind == 1 && o.Conn == conn })
		if gone == is {
			t.Fatalf("%+v: of %d %q, and %s", e, conn, texts(out), show(next))
		}
	}
	ids := map[int]bool{}
	for _, s := range next.S {
		ids[s.ID] = s.L.Phase == atIn
		if e.Kind == aTick && s.Last+next.C.Idle <= next.Now {
			t.Fatalf("tick: %s", show(next))
		}
	}
	for _, h := range next.H {
		if !ids[h.Sess] || e.Kind == aTick && h.Dead <= next.Now {
			t.Fatalf("%+v: %s", e, show(next))
		}
	}
	for _, x := range next.X {
		if !ids[x.Sess] {
			t.Fatalf("%+v: %s", e, show(next))
		}
	}
}

// outcome is what an event came to, as counts have it.
func outcome(e api.Ev, no api.Errno, out []string) string {
	if no != 0 {
		return fmt.Sprintf("error %d of kind %d", no, e.Kind)
	}
	s := strings.Join(out, " ")
	for _, x := range []string{"552 Quota.", "421 Too many.", "425 No port.", "421 Bad server.", "421 No server.", "221 Goodbye.", "Entering", "dial", "USER", "PORT", "EPRT", "PASS", "550 Not allowed.", "504 Not that address.", "shut", "<"} {
		if strings.Contains(s, x) {
			return fmt.Sprintf("%s of kind %d", x, e.Kind)
		}
	}
	return fmt.Sprintf("nothing of kind %d", e.Kind)
}

// P22.2 and P22.4: many scripts by chance, event by event as the tests have it, and with what was kept beside them.
func TestScriptsByChance(t *testing.T) {
	r := rand.New(rand.NewSource(22))
	counts := map[string]int{}
	carried, dials := 0, 0
	for range 110 {
		g, err := New(someConf(r))
		if err != nil {
			t.Fatal(err)
		}
		if r.Intn(10) == 0 {
			g.Now = maxTaken - r.Intn(30)
		}
		p := past{g: g, each: map[int]int{}, all: map[int]int{}}
		begun := g
		var l []api.Ev
		var goes []string
		for range 400 {
			e := someEvent(r, p.g)
			l = append(l, e)
			next, out, no := Do(p.g, e)
			want, wantOut, wantNo := wantDo(p.g, e)
			if no != wantNo || !alike(next, want) || !slices.Equal(texts(out), wantOut) {
				t.Fatalf("%+v of %s: %d, %q and %s, want %d, %q and %s", e, show(p.g), no, texts(out), show(next), wantNo, wantOut, show(want))
			}
			counts[outcome(e, no, wantOut)]++
			if no == 0 {
				p.check(t, e, next, out)
				goes = append(goes, wantOut...)
			}
		}
		got, out := Run(begun, l)
		checkGate(t, "all at once", got, p.g)
		checkOuts(t, "all at once", out, goes...)
		carried, dials = carried+p.carried, dials+p.dials
	}
	for _, s := range []string{
		"552 Quota. of kind 1", "421 Too many. of kind 0", "421 Too many. of kind 1", "425 No port. of kind 1", "421 Bad server. of kind 1", "421 No server. of kind 2", "221 Goodbye. of kind 1", "Entering of kind 1", "dial of kind 1", "dial of kind 3", "USER of kind 1", "PORT of kind 1", "EPRT of kind 1", "PASS of kind 1",
		"shut of kind 1", "shut of kind 2", "shut of kind 3", "shut of kind 4", "shut of kind 5", "< of kind 0", "< of kind 1", "< of kind 2", "nothing of kind 1", "nothing of kind 2", "nothing of kind 5",
		"error 1 of kind 0", "error 3 of kind 1", "error 1 of kind 2", "error 3 of kind 2", "error 1 of kind 3", "error 3 of kind 4", "error 1 of kind -1", "error 1 of kind 6",
	} {
		if counts[s] < 15 {
			t.Errorf("%s: %d times", s, counts[s])
		}
	}
	if carried < 1000 || dials < 500 {
		t.Errorf("%d bytes, and %d asked for", carried, dials)
	}
}

// someGate is one by chance, most of which may be.
func someGate(r *rand.Rand) api.Gate {
	g := theGate()
	all, _ := places(&g)
	rare := func(how func()) {
		if r.Intn(12) == 0 {
			how()
		}
	}
	for _, x := range slices.Concat(mayBe[1:], mayNotBe[1:]) {
		if r.Intn(len(mayNotBe)*2) == 0 && len(g.S) == 4 && len(g.H) == 3 && len(g.X) == 3 && len(g.All) == 2 {
			x.how(&g)
		}
	}
	rare(func() { *pick(r, all...) = *pick(r, all...) })
	rare(func() { *pick(r, all...) = r.Intn(30) - 2 })
	rare(func() { g.Now = pick(r, 0, 4, 6, 8, maxTaken-1, maxTaken) })
	rare(func() { g.C = someConf(r) })
	rare(func() { g.S = without(g.S, r.Intn(4)) })
	rare(func() { g.H = without(g.H, r.Intn(3)) })
	rare(func() { g.X = without(g.X, r.Intn(3)) })
	return g
}

// P22.1, P22.2, P22.4: gateways by chance that may be, or may not, and any event.
func TestAnyByChance(t *testing.T) {
	r := rand.New(rand.NewSource(23))
	may, none := 0, 0
	for range 15000 {
		g := someGate(r)
		if May(g) != wantMay(g) {
			t.Fatalf("May of %s, %+v, is %t", show(g), g.C, May(g))
		}
		e := api.Ev{Kind: r.Intn(6), Conn: r.Intn(20) - 2, Port: pick(r, 2000, 2001, 3000, 20), Host: pick(r, me, serverA), B: chunk(r), Up: r.Intn(2) > 0, Draw: r.Intn(5)}
		if wantMay(g) {
			may++
			e = someEvent(r, g)
		} else {
			none++
		}
		next, out, no := Do(g, e)
		want, wantOut, wantNo := wantDo(g, e)
		if no != wantNo || !alike(next, want) || !slices.Equal(texts(out), wantOut) {
			t.Fatalf("%+v of %s: %d, %q and %s, want %d, %q and %s", e, show(g), no, texts(out), show(next), wantNo, wantOut, show(want))
		}
		if no == 0 && !May(next) {
			t.Fatalf("%+v of %s: %s may not be", e, show(g), show(next))
		}
		for _, other := range []api.Gate{g, next, someGate(r)} {
			if Same(g, other) != wantSame(g, other) {
				t.Fatalf("Same of %s and %s is %t", show(g), show(other), Same(g, other))
			}
		}
	}
	if may < 3000 || none < 3000 {
		t.Errorf("%d may be, and %d may not", may, none)
	}
}

// wantSame holds two against each other without their confs.
func wantSame(a, b api.Gate) bool {
	a.C, b.C = api.Conf{}, api.Conf{}
	return alike(a, b)
}
