package audit

import (
	"fmt"
	"math/rand"
	"slices"
	"strings"
	"testing"

	"wharfinger/api"
	"wharfinger/cmd"
	"wharfinger/gate"
)

// The phases by the document's own order.
const (
	atNeedUser, atDialing, atGreet, atUserSent, atNeedPass, atPassSent, atIn = 0, 1, 2, 3, 4, 5, 6
)

// writer writes scripts by chance. Once fresh is above 0 no connection's number comes a second time.
type writer struct {
	r     *rand.Rand
	fresh int
}

// used are all connections, in order.
func used(gs ...api.Gate) []int {
	var l []int
	for _, g := range gs {
		for conn := range owners(g) {
			l = append(l, conn)
		}
	}
	slices.Sort(l)
	return slices.Compact(l)
}

// anyConn is one that is used, mostly.
func (w *writer) anyConn(g api.Gate) int {
	l := used(g)
	if len(l) == 0 || w.r.Intn(12) == 0 {
		return pick(w.r, -1, 0, 1000, w.r.Intn(60))
	}
	return pick(w.r, l...)
}

// nextConn is one of which bytes lead on, mostly: of who is waited for, or of a link.
func (w *writer) nextConn(g api.Gate) int {
	if w.r.Intn(12) == 0 {
		return w.anyConn(g)
	}
	l := []int{-1}
	for _, s := range g.S {
		switch {
		case s.L.Phase == atNeedUser || s.L.Phase == atNeedPass || s.L.Phase == atIn && s.O.Pend == 0:
			l = append(l, s.ID, s.ID)
		case s.Up > -1:
			l = append(l, s.Up, s.Up)
		}
	}
	for _, x := range g.X {
		l = append(l, x.A, max(x.A, x.B))
	}
	return pick(w.r, l...)
}

// newConn is one that is not used, mostly.
func (w *writer) newConn(g api.Gate) int {
	if w.fresh > 0 {
		w.fresh++
		return w.fresh
	}
	if w.r.Intn(15) == 0 {
		return w.anyConn(g)
	}
	return w.r.Intn(40)
}

// six256 is a port as its last two numbers of six.
func six256(p int) string { return fmt.Sprintf("%d,%d", p/256, p%256) }

func commas(h api.Host) string { return fmt.Sprintf("%d,%d,%d,%d", h[0], h[1], h[2], h[3]) }

func dots(h api.Host) string { return strings.ReplaceAll(commas(h), ",", ".") }

// wrongLine is one that leads nowhere, mostly.
func (w *writer) wrongLine(s api.Sess) string {
	return pick(w.r, "", "x", "SITE x", "USER me@ftp.b", "USER x@ftp.z", "PASS x", "ACCT x", "QUIT", "ABOR", "CDUP", "LIST", "STOR /pub/x", "STOR ../../pub", "RNTO x", "PORT 1,2,3,4,1,0", "PORT "+commas(s.Peer)+",3,255", "EPRT |2|::1|4000|", "EPRT |1|"+dots(own)+"|4000|",
		"RETR a\rUSER x", "RETR a\x00b", strings.Repeat("x", 511), strings.Repeat("x", 513), "CWD "+strings.Repeat("d", 201), "\xff\xf4\xff\xf2ABOR")
}

// clientLine is one that leads on, mostly.
func (w *writer) clientLine(s api.Sess) string {
	if w.r.Intn(14) == 0 {
		return w.wrongLine(s)
	}
	switch s.L.Phase {
	case atNeedUser:
		return "USER " + pick(w.r, "me", "you", "a b", "x@y") + "@" + pick(w.r, "ftp.a", "ftp.b", "ftp.c")
	case atNeedPass:
		return pick(w.r, "PASS x", "pass a b", "PASS QUIT")
	case atIn:
		if s.O.From {
			return "RNTO b"
		}
		port := 1024 + w.r.Intn(4000)
		if w.r.Intn(2) == 0 {
			return pick(w.r, "PASV", "EPSV", "PORT "+commas(s.Peer)+","+six256(port), fmt.Sprintf("EPRT |1|%s|%d|", dots(s.Peer), port))
		}
		return pick(w.r, "NOOP", "CWD x", "CWD ..", "CWD /pub", "RETR f", "STOR f", "LIST", "REST 5", "RNFR a", "RNFR a", "ABOR", "PWD")
	}
	return pick(w.r, "NOOP", "LIST", "USER me@ftp.a", "PASS x")
}

// serverLine is a server's, likewise.
func (w *writer) serverLine(g api.Gate, s api.Sess) string {
	if s.G.Open {
		return pick(w.r, "more", fmt.Sprintf("%d end", s.G.Code))
	}
	if w.r.Intn(40) == 0 {
		return pick(w.r, "421 off", "x", "", "530 no", "150 on", "220-hi", "227 none", "550 no", "230 in", "350 on", strings.Repeat("2", 513), "200 a\rQUIT")
	}
	at, port := g.C.Tenants[s.L.Tenant].At.Host, 1000+w.r.Intn(5000)
	switch {
	case s.L.Phase == atGreet:
		return pick(w.r, "220 hi", "220 hi", "220-hi", "120 wait")
	case s.L.Phase == atUserSent:
		return pick(w.r, "230 in", "331 so?", "331 so?", "530 no")
	case s.L.Phase == atPassSent:
		return pick(w.r, "230 in", "230 in", "230 in", "530 no")
	case s.O.Verb == "PASV":
		return fmt.Sprintf("227 ok (%s,%s)", commas(pick(w.r, at, at, at, at, at, me, own)), six256(port))
	case s.O.Verb == "EPSV":
		return fmt.Sprintf("229 ok (|||%d|)", port)
	case s.O.Verb == "RNFR" || s.O.Verb == "REST":
		return pick(w.r, "350 on", "350 on", "350 on", "550 no")
	}
	return pick(w.r, "200 ok", "250 ok", "226 ok", "150 on", "550 no")
}

// lines are some, of which the last one may be a part.
func (w *writer) lines(next func() string) []byte {
	s := ""
	for range 1 + w.r.Intn(5)/4*w.r.Intn(4) {
		s += next() + pick(w.r, "\r\n", "\r\n", "\r\n", "\r\n", "\r\n", "\r\n", "\r\n", "\n", "")
	}
	if w.r.Intn(30) == 0 {
		s = s[:w.r.Intn(len(s)+1)]
	}
	return []byte(s)
}

// chunk are bytes of any kind, or such as could be taken for lines.
func (w *writer) chunk() []byte {
	if w.r.Intn(4) == 0 {
		return []byte(pick(w.r, "QUIT\r\n", "226 ok\r\n", "\r\n", ""))
	}
	b := make([]byte, w.r.Intn(9))
	w.r.Read(b)
	return b
}

// someBytes are such as who has their connection would tell, mostly.
func (w *writer) someBytes(g api.Gate) api.Ev {
	e := api.Ev{Kind: aBytes, Conn: w.nextConn(g), B: w.chunk(), Draw: w.r.Intn(9) - 4}
	if w.r.Intn(60) == 0 {
		return e
	}
	for _, s := range g.S {
		switch {
		case s.ID == e.Conn:
			e.B = w.lines(func() string { return w.clientLine(s) })
		case s.Up == e.Conn && s.Up > -1:
			e.B = w.lines(func() string { return w.serverLine(g, s) })
		}
	}
	return e
}

// asking are the connections for which somebody is asked.
func asking(g api.Gate) []int {
	var l []int
	for _, s := range g.S {
		if s.L.Phase == atDialing {
			l = append(l, s.ID)
		}
	}
	for _, x := range g.X {
		if x.B < 0 {
			l = append(l, x.A)
		}
	}
	return l
}

func hosts() []api.Host { return []api.Host{me, you, own, serverA, serverB, serverC} }

// event is one by chance, such as leads on, mostly.
func (w *writer) event(g api.Gate) api.Ev {
	asked := asking(g)
	switch n := w.r.Intn(40); {
	case n < 3:
		// A client may also be where a server is.
		return api.Ev{Kind: anOpen, Conn: w.newConn(g), Host: pick(w.r, me, me, you, serverA, serverB)}
	case n < 9 && len(asked) > 0:
		return api.Ev{Kind: aDialed, Conn: pick(w.r, asked...), Port: w.newConn(g), Up: w.r.Intn(8) > 0}
	case n < 13 && len(g.H) > 0:
		h := pick(w.r, g.H...)
		return comes(w.newConn(g), pick(w.r, h.Peer, h.Peer, h.Peer, pick(w.r, hosts()...)), h.Port)
	case n == 13:
		return comes(w.newConn(g), pick(w.r, hosts()...), pick(w.r, 2000, 2001, 2002, 3000, 3001, 4000, 4001))
	case n == 14 && w.r.Intn(3) == 0:
		return closes(w.anyConn(g))
	case n == 15 && w.r.Intn(3) == 0:
		return api.Ev{Kind: aTick}
	case n == 16:
		return api.Ev{Kind: aDialed, Conn: w.anyConn(g), Port: w.newConn(g), Up: w.r.Intn(2) > 0}
	}
	return w.someBytes(g)
}

// conf is one by chance in which little goes on till it is too much.
func (w *writer) conf() api.Conf {
	c := theConf()
	c.Pre, c.Life, c.Idle, c.Lf = 2+w.r.Intn(4), 1+w.r.Intn(9), 5+w.r.Intn(20), w.r.Intn(2) > 0
	for i := range c.Tenants {
		x := &c.Tenants[i]
		x.Sessions, x.Holes, x.Each, x.Quota = 1+w.r.Intn(3), 1+w.r.Intn(3), w.r.Intn(300), w.r.Intn(1200)
	}
	return c
}

// begins is a gateway that begins, now and then near the end of all time.
func (w *writer) begins(t *testing.T) api.Gate {
	t.Helper()
	g, err := gate.New(w.conf())
	if err != nil {
		t.Fatal(err)
	}
	if w.r.Intn(12) == 0 {
		g.Now = 1<<40 - w.r.Intn(30)
	}
	return g
}

// sessOf is the session of an ID.
func sessOf(g api.Gate, id int) (api.Sess, bool) {
	at := slices.IndexFunc(g.S, func(s api.Sess) bool { return s.ID == id })
	if id < 0 || at < 0 {
		return api.Sess{}, false
	}
	return g.S[at], true
}

// checkAsked holds what is asked for to whose it is: a tenant's server, as its client tells a USER; or where a pinhole leads that is live, and is for who comes.
func checkAsked(t *testing.T, g, next api.Gate, e api.Ev, o api.Out) string {
	t.Helper()
	if e.Kind == aBytes {
		s, is := sessOf(g, e.Conn)
		at := slices.IndexFunc(g.C.Tenants, func(x api.Tenant) bool { return x.At == o.To })
		later, stays := sessOf(next, e.Conn)
		if !is || o.Conn != s.ID || s.L.Phase != atNeedUser || at < 0 || stays && later.L.Tenant != at {
			t.Fatalf("%+v: %+v is asked, of %+v", e, o, s)
		}
		return "a server is asked"
	}
	at := slices.IndexFunc(g.H, func(h api.Hole) bool { return h.Port == e.Port && h.Peer == e.Host && h.Dead > g.Now })
	if e.Kind != aCome || at < 0 || o.Conn != e.Conn {
		t.Fatalf("%+v: %+v is asked", e, o)
	}
	h := g.H[at]
	s, is := sessOf(g, h.Sess)
	server := g.C.Tenants[h.Tenant].At.Host
	if !is || s.L.Tenant != h.Tenant || s.L.Phase != atIn || o.To != h.To || o.To.Port < 1024 || o.To.Port > 65535 {
		t.Fatalf("%+v by %+v: %+v is asked", e, h, o)
	}
	switch {
	case h.Peer == s.Peer && h.To.Host == server:
		return "a server's end is asked"
	case h.Peer == server && h.To.Host == s.Peer:
		return "a client's end is asked"
	}
	t.Fatalf("%+v by %+v of %+v: %+v is asked", e, h, s, o)
	return ""
}

// checkCommand holds what goes out to a server to one command, in its one form, as one line.
func checkCommand(t *testing.T, e api.Ev, o api.Out) string {
	t.Helper()
	line, is := strings.CutSuffix(string(o.B), "\r\n")
	c, no := cmd.Read(line)
	back, may := cmd.Print(c)
	if !is || strings.ContainsAny(line, "\r\n\x00\xff") || len(line) > 512 || no != 0 || !may || back != line {
		t.Fatalf("%+v: %q goes out to a server", e, o.B)
	}
	return c.Verb + " goes out"
}

// checkOuts holds all that goes out behind one event to what it may be, and answers what it was.
func checkOuts(t *testing.T, g, next api.Gate, e api.Ev, l []api.Out) []string {
	t.Helper()
	var what []string
	for _, o := range l {
		if o.Kind == aDial {
			what = append(what, checkAsked(t, g, next, e, o))
		}
		for _, s := range slices.Concat(g.S, next.S) {
			if o.Kind == aSend && o.Conn == s.Up {
				what = append(what, checkCommand(t, e, o))
				break
			}
		}
	}
	return what
}

// checkHoles holds each pinhole to where it may lead, whether somebody comes or not.
func checkHoles(t *testing.T, g api.Gate) {
	t.Helper()
	for _, h := range g.H {
		s, is := sessOf(g, h.Sess)
		server := g.C.Tenants[h.Tenant].At.Host
		x := g.C.Tenants[h.Tenant]
		leads := h.Peer == s.Peer && h.To.Host == server || h.Peer == server && h.To.Host == s.Peer
		if !is || !leads || h.To.Port < 1024 || h.Port < x.Low || h.Port > x.High {
			t.Fatalf("%+v of %+v", h, s)
		}
	}
}

// checkWhose holds Owner and Count, of a gateway that came of a script, to the tests' own, and to what may be of one.
func checkWhose(t *testing.T, g api.Gate) {
	t.Helper()
	all := owners(g)
	for _, conn := range append(used(g), -1, 0, 1, 2, 3, 60) {
		if id := Owner(g, conn); id != wantOwner(all, conn) {
			t.Fatalf("Owner of %d = %d, want %d", conn, id, wantOwner(all, conn))
		}
	}
	var sum [3]int
	for tenant := -1; tenant < 3; tenant++ {
		a, b, c := Count(g, tenant)
		checkCount(t, "a script", g, tenant, wantCount(g, tenant))
		sum[0], sum[1], sum[2] = sum[0]+a, sum[1]+b, sum[2]+c
		if tenant >= 0 && (b > g.C.Tenants[tenant].Holes || a > g.C.Tenants[tenant].Sessions+g.C.Pre || c > 2*g.C.Tenants[tenant].Sessions) {
			t.Fatalf("of %d there are %d, %d and %d", tenant, a, b, c)
		}
	}
	if sum != [3]int{len(g.S), len(g.H), len(g.X)} {
		t.Fatalf("%v are counted of %d, %d and %d", sum, len(g.S), len(g.H), len(g.X))
	}
}

// P23.1, P23.2, P23.3: over scripts by chance, what is asked for is a tenant's server, or where a live pinhole leads, and what goes out to a server are commands, one line each.
func TestScriptsByChance(t *testing.T) {
	counts := map[string]int{}
	for seed := range 60 {
		w := &writer{r: rand.New(rand.NewSource(int64(100 + seed)))}
		g := w.begins(t)
		begun, gone := g, map[int]string{}
		var l []api.Ev
		for range 400 {
			e := w.event(g)
			l = append(l, e)
			next, out, no := gate.Do(g, e)
			if no != 0 {
				counts["an error"]++
				continue
			}
			for _, what := range checkOuts(t, g, next, e, out) {
				counts[what]++
			}
			checkHoles(t, next)
			checkWhose(t, next)
			for conn := -1; conn < 62; conn++ {
				gone[conn] += string(Sent(out, conn))
			}
			g = next
		}
		_, all := gate.Run(begun, l)
		for conn, s := range gone {
			checkSent(t, "all at once", all, conn, s)
		}
	}
	for _, s := range []string{"an error", "a server is asked", "a server's end is asked", "a client's end is asked", "USER goes out", "PASS goes out", "PASV goes out", "EPSV goes out", "PORT goes out", "EPRT goes out", "RETR goes out", "STOR goes out", "CWD goes out", "ABOR goes out", "RNFR goes out", "RNTO goes out", "REST goes out"} {
		if counts[s] < 20 {
			t.Errorf("%s: %d times", s, counts[s])
		}
	}
}
