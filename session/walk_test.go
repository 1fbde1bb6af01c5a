package session

import (
	"fmt"
	"math/rand"
	"slices"
	"strings"
	"testing"

	"wharfinger/acl"
	"wharfinger/api"
	"wharfinger/cmd"
	"wharfinger/conf"
	"wharfinger/hole"
	"wharfinger/login"
	"wharfinger/order"
	"wharfinger/path"
	"wharfinger/pool"
	"wharfinger/reply"
	"wharfinger/turn"
)

// A whole session, by hand: what comes, and all that goes out.
func TestWholeSession(t *testing.T) {
	s, out := New(1, me, 0)
	checkOuts(t, "open", out, said("220 Ready."))
	var h []api.Hole
	for i, x := range []struct {
		who, text string
		out       []string
		pins      int
	}{
		{"client", "NOOP", []string{said("530 Log in first.")}, 0},
		{"client", "USER me", []string{said("501 Not so.")}, 0},
		{"client", "USER me@ftp.x", []string{said("530 No such host.")}, 0},
		{"client", "USER me@ftp.a", []string{"dial 1 {[10 1 0 1] 21}"}, 0},
		{"server", "220 early", nil, 0},
		{"dialed", "", []string{said("421 No server.")}, 0},
		{"client", "USER me@ftp.a", []string{"dial 1 {[10 1 0 1] 21}"}, 0},
		{"client", "USER me@ftp.a", []string{said("503 Not now.")}, 0},
		{"dialed", "2", nil, 0},
		{"client", "PASS p", []string{said("503 Not now.")}, 0},
		{"server", "120 wait", nil, 0},
		{"server", "220-hi", nil, 0},
		{"server", "there", nil, 0},
		{"server", "220 go", []string{asked("USER me")}, 0},
		{"server", "331 pass?", []string{said("331 pass?")}, 0},
		{"client", "LIST", []string{said("530 Log in first.")}, 0},
		{"client", "pass secret", []string{asked("PASS secret")}, 0},
		{"server", "230-in", nil, 0},
		{"server", "230 at last", []string{said("230-in", "230 at last")}, 0},
		{"server", "200 unasked", nil, 0},
		{"client", "PWD", []string{asked("PWD")}, 0},
		{"client", "PWD", []string{said("503 Not now.")}, 0},
		{"server", "257 /", []string{said("257 /")}, 0},
		{"client", "cwd a/../pub/./x", []string{asked("CWD /pub/x")}, 0},
		{"server", "250 ok", []string{said("250 ok")}, 0},
		{"client", "STOR f", []string{said("550 Not allowed.")}, 0},
		{"client", "CDUP", []string{asked("CWD /pub")}, 0},
		{"server", "550 no", []string{said("550 no")}, 0},
		{"client", "SIZE f", []string{asked("SIZE /pub/x/f")}, 0},
		{"server", "213 7", []string{said("213 7")}, 0},
		{"client", "PASV", []string{asked("PASV")}, 0},
		{"server", "227 = (10,1,0,1,200,10)", []string{said("227 Entering Passive Mode (10,0,0,9,7,208).")}, 1},
		{"client", "REST 4", []string{asked("REST 4")}, 1},
		{"server", "350 go", []string{said("350 go")}, 1},
		{"client", "RETR f", []string{asked("RETR /pub/x/f")}, 1},
		{"server", "150 here", []string{said("150 here")}, 1},
		{"client", "ABOR", []string{asked("ABOR")}, 0},
		{"server", "426 cut", []string{said("426 cut")}, 0},
		{"server", "226 done", []string{said("226 done")}, 0},
		{"client", "PORT 10,0,0,1,8,0", []string{asked("PORT 10,0,0,9,7,208")}, 1},
		{"server", "200 ok", []string{said("200 ok")}, 1},
		{"client", "RNFR f", []string{asked("RNFR /pub/x/f")}, 1},
		{"server", "350 and?", []string{said("350 and?")}, 1},
		{"client", "RNTO ../g", []string{asked("RNTO /pub/g")}, 1},
		{"server", "250 ok", []string{said("250 ok")}, 1},
		{"client", "EPSV", []string{asked("EPSV")}, 1},
		{"server", "229 (|||5000|)", []string{said("229 Entering Extended Passive Mode (|||2001|).")}, 2},
		{"client", "EPRT |1|10.0.0.1|2048|", []string{said("425 No port.")}, 2},
		{"client", "QUIT", []string{said("221 Goodbye."), shut(1), shut(2)}, 0},
		{"client", "USER me@ftp.a", nil, 0},
		{"server", "220 hi", nil, 0},
		{"dialed", "2", nil, 0},
	} {
		switch x.who {
		case "client":
			s, h, out = line(s, theConf(), h, x.text)
		case "server":
			s, h, out = heard(s, theConf(), h, x.text)
		default:
			up := -1
			if x.text != "" {
				up = 2
			}
			s, out = Dialed(s, up)
		}
		what := fmt.Sprintf("%d: %s tells %q", i, x.who, x.text)
		checkOuts(t, what, out, x.out...)
		if len(h) != x.pins || !May(s) {
			t.Errorf("%s: %d pinholes, want %d, and %+v", what, len(h), x.pins, s)
		}
	}
}

// wantMay is May as the tests have it: by what is wrong.
func wantMay(s api.Sess) bool {
	bad := 0
	count := func(is bool) {
		if is {
			bad++
		}
	}
	alone := map[int]bool{0: true, 1: true, 7: true}
	count(s.ID < 0)
	count(s.Up < -1)
	count(alone[s.L.Phase] != (s.Up == -1))
	count(!login.May(s.L))
	count(!order.May(s.O))
	count(s.L.Phase != 6 && s.O.Pend != 0)
	count(s.L.Phase == 6 && !path.May(s.Cwd))
	count(s.L.Phase != 6 && s.Cwd != "")
	count(s.Hold != "" && !path.May(s.Hold))
	count(s.Hold == "" && (s.O.Verb == "CWD" || s.O.Verb == "CDUP"))
	count(s.Tel != 0 && s.Tel != 1 && s.Tel != 2)
	for _, n := range []int{s.Used, s.Last} {
		count(n < 0 || n > maxTaken)
	}
	return bad == 0
}

// model is what a session, and all pinholes, come to as the tests have it.
type model struct {
	s         api.Sess
	c         api.Conf
	h         []api.Hole
	now, draw int
	out       []string
}

func (m *model) say(l ...string) {
	m.out = append(m.out, fmt.Sprintf("%d<%s\r\n", m.s.ID, strings.Join(l, "\r\n")))
}

func (m *model) ask(s string) { m.out = append(m.out, fmt.Sprintf("%d<%s\r\n", m.s.Up, s)) }

func (m *model) leave(says ...string) {
	m.say(says...)
	m.out = append(m.out, shut(m.s.ID))
	if m.s.Up >= 0 {
		m.out = append(m.out, shut(m.s.Up))
	}
	m.h = slices.DeleteFunc(slices.Clone(m.h), func(h api.Hole) bool { return h.Sess == m.s.ID })
	m.s = over(m.s)
}

// isNone tells whether no line comes to anything.
func (m *model) isNone() bool {
	return !wantMay(m.s) || conf.Check(m.c) != nil || m.s.L.Tenant >= len(m.c.Tenants) || m.s.L.Phase == atGone
}

// grant is the port that was granted, or 0.
func (m *model) grant(peer api.Host, to api.End) int {
	x := m.c.Tenants[m.s.L.Tenant]
	of := 0
	for _, h := range m.h {
		if h.Tenant == m.s.L.Tenant {
			of++
		}
	}
	port, is := pool.Pick(x.Low, x.High, m.draw, hole.Ports(m.h))
	if !is || of >= x.Holes {
		m.say("425 No port.")
		return 0
	}
	dead := min(max(m.now, 0), maxTaken) + m.c.Life
	m.h = append(slices.Clone(m.h), api.Hole{Port: port, Sess: m.s.ID, Tenant: m.s.L.Tenant, Peer: peer, To: to, Dead: min(dead, maxTaken)})
	return port
}

// joined is a command as it goes out.
func joined(c api.Cmd) string {
	return strings.Join(slices.DeleteFunc([]string{c.Verb, c.Arg}, func(s string) bool { return s == "" }), " ")
}

// noLine is what is said of a line that is no command.
func noLine(x api.Line) (api.Cmd, string) {
	c, no := cmd.Read(x.Text)
	says := []string{"", "501 Not so.", "500 What?", "502 Not here."}[no]
	if x.Over {
		says = "500 Too long."
	}
	return c, says
}

func (m *model) line(x api.Line) {
	if m.isNone() {
		return
	}
	c, says := noLine(x)
	l := m.s.L
	switch {
	case says != "":
		m.say(says)
	case c.Verb == "QUIT":
		m.leave("221 Goodbye.")
	case c.Verb == "USER":
		to, no := login.User(l, m.c.Tenants, c.Arg)
		if no != 0 {
			m.say(map[api.Errno]string{7: "503 Not now.", 2: "501 Not so.", 3: "530 No such host."}[no])
			return
		}
		m.s.L = to
		m.out = append(m.out, dial(m.s.ID, m.c.Tenants[to.Tenant].At))
	case c.Verb == "PASS" && l.Phase == atNeedPass:
		m.s.L.Phase = atPassSent
		m.ask(joined(c))
	case c.Verb == "PASS":
		m.say("503 Not now.")
	case c.Verb == "ACCT":
		m.say("502 Not here.")
	case l.Phase != atIn:
		m.say("530 Log in first.")
	default:
		m.command(c)
	}
}

// withPath are the verbs whose argument is a path.
const withPath = " APPE CWD DELE LIST MDTM MKD MLSD MLST NLST RETR RMD RNFR RNTO SIZE STAT STOR "

func (m *model) command(c api.Cmd) {
	name, where := c.Verb, m.s.Cwd
	if name == "CDUP" {
		where = where[:strings.LastIndex(where, "/")]
		if where == "" {
			where = "/"
		}
		c = api.Cmd{Verb: "CWD", Arg: where}
	}
	if strings.Contains(withPath, " "+name+" ") && c.Arg != "" {
		to, no := path.Join(where, c.Arg)
		if no != 0 {
			m.say("501 Not so.")
			return
		}
		where, c.Arg = to, to
	}
	if name != "ABOR" && !acl.Allowed(m.c.Tenants[m.s.L.Tenant].Rules, name, where) {
		m.say("550 Not allowed.")
		return
	}
	to, no := turn.Point(c, m.s.Peer)
	if points := name == "PORT" || name == "EPRT"; points && no != 0 {
		m.say(map[api.Errno]string{8: "522 Use (1).", 6: "504 Not that address.", 2: "501 Not so."}[no])
		return
	}
	o, no := order.Ask(m.s.O, c)
	if no != 0 {
		m.say(map[api.Errno]string{7: "503 Not now.", 1: "501 Not so."}[no])
		return
	}
	goes := joined(c)
	if name == "PORT" || name == "EPRT" {
		port := m.grant(m.c.Tenants[m.s.L.Tenant].At.Host, to)
		if port == 0 {
			return
		}
		goes = goesBy(name, port)
	}
	m.s.O = o
	m.ask(goes)
	if c.Verb == "CWD" {
		m.s.Hold = where
	}
	if name == "ABOR" {
		m.h = hole.Revoke(m.h, m.s.ID)
	}
}

func (m *model) reply(x api.Line, full bool) {
	if m.isNone() || m.s.Up < 0 {
		return
	}
	g, r, is, no := reply.Take(m.s.G, x.Text)
	printed, may := reply.Print(r)
	if x.Over || no != 0 || is && !may {
		m.leave("421 Bad server.")
		return
	}
	m.s.G = g
	if !is {
		return
	}
	if m.s.L.Phase == atIn {
		m.answered(r, printed)
		return
	}
	l, act := login.Heard(m.s.L, r.Code)
	if act == 4 && full {
		m.leave("421 Too many.")
		return
	}
	m.s.L = l
	if act == 1 {
		m.ask("USER " + l.User)
	}
	if act >= 2 {
		m.say(printed...)
	}
	if act == 3 {
		m.out = append(m.out, shut(m.s.Up))
		m.s.Up = -1
	}
	if act == 4 {
		m.s.Cwd = "/"
	}
}

func (m *model) answered(r api.Reply, printed []string) {
	was := m.s.O
	if was.Pend == 0 {
		if r.Code == 421 {
			m.leave(printed...)
		}
		return
	}
	m.s.O, _, _ = order.Heard(was, r.Code)
	if strings.HasPrefix(was.Verb, "C") && m.s.O.Pend == 0 && r.Code <= 299 {
		m.s.Cwd = m.s.Hold
	}
	if r.Code != 227 && r.Code != 229 || was.Verb != "PASV" && was.Verb != "EPSV" {
		m.say(printed...)
		return
	}
	to, no := turn.Listen(was.Verb, r, m.c.Tenants[m.s.L.Tenant].At.Host)
	if no != 0 {
		m.say("425 No address.")
		return
	}
	if port := m.grant(m.s.Peer, to); port != 0 {
		own := m.c.Own
		m.say(map[string]string{
			"PASV": fmt.Sprintf("227 Entering Passive Mode (%d,%d,%d,%d,%d,%d).", own[0], own[1], own[2], own[3], port/256, port%256),
			"EPSV": fmt.Sprintf("229 Entering Extended Passive Mode (|||%d|).", port),
		}[was.Verb])
	}
}

// pick is one of texts.
func pick(r *rand.Rand, l ...string) string { return l[r.Intn(len(l))] }

// someText is a client's line by chance: of a phase in which it leads on, or any.
func someText(r *rand.Rand, s api.Sess) string {
	if r.Intn(3) > 0 {
		switch s.L.Phase {
		case atNeedUser:
			return pick(r, "USER me@ftp.a", "user you@ftp.b", "USER me@ftp.a")
		case atNeedPass:
			return pick(r, "PASS p", "PASS", "pass x y")
		}
	}
	ends := pick(r, "10,0,0,1,8,0", "10,0,0,1,8,0", "10,0,0,2,8,0", "10,0,0,1,1,1", "x")
	ext := pick(r, "|1|10.0.0.1|2048|", "|1|10.0.0.1|3000|", "|1|10.0.0.1|80|", "|2|::1|2048|", "||")
	p := pick(r, "b", "..", "/", "../../x", "/pub/x", "/secret", "/secret/../a", "b/./c//d", "", ".", "/mute", long(120), strings.Repeat("y", 90))
	if s.O.Verb == "" && s.O.From && r.Intn(2) > 0 {
		return "RNTO " + p
	}
	return pick(r, "CWD "+p, "CWD "+p, "CWD "+p, "RETR "+p, "STOR "+p, "LIST "+p, "LIST", "NOOP", "PWD", "SYST", "CDUP", "CDUP", "RNFR "+p, "REST 5", "REST x", "PASV", "EPSV", "PASV", "EPSV",
		"PORT "+ends, "PORT "+ends, "EPRT "+ext, "EPRT "+ext, "ABOR", "ABOR", "ABOR", "PASS p", "USER me@ftp.a", "USER x", "USER me@ftp.x", "ACCT x", "HELP x", "SITE x", "x", "RETR", pick(r, "QUIT", "NOOP", "TYPE I", "MLSD", "FEAT"))
}

// someReply is a server's line by chance, likewise.
func someReply(r *rand.Rand, s api.Sess) string {
	if s.G.Open && r.Intn(2) > 0 {
		return fmt.Sprintf("%d end", s.G.Code)
	}
	if r.Intn(3) > 0 {
		switch s.L.Phase {
		case atGreet:
			return "220 hi"
		case atUserSent:
			return pick(r, "331 p", "331 p", "230 in")
		case atPassSent:
			return pick(r, "230 in", "232 in", "230-in")
		}
		switch s.O.Verb {
		case "PASV":
			return pick(r, "227 (10,1,0,1,8,0)", "227 x (10,2,0,1,9,0)", "227 x", "229 (|||2048|)")
		case "RNFR":
			return "350 and?"
		case "EPSV":
			return pick(r, "229 (|||2048|)", "229 (|||3000|)", "229 (|||80|)", "227 x")
		}
	}
	return pick(r, "150 on", "200 ok", "250 ok", "250 ok", "350 on", "350 on", "426 cut", "550 no", "220-hi", "250-x", "331 p", "230 in", "530 no", pick(r, "x", "421 off", "999 x", ""), "226 ok", "227 (10,1,0,1,8,0)", "229 (|||2048|)")
}

// outcome is what went out, as counts have it.
func outcome(out []string) string {
	if len(out) == 0 {
		return "nothing"
	}
	s := strings.TrimSuffix(out[0], "\r\n")
	switch {
	case strings.HasPrefix(s, "dial"):
		return "dial"
	case strings.HasPrefix(s, "1<") && !strings.HasSuffix(s, ".") && s != "1<500 What?":
		return "a reply"
	case strings.HasPrefix(s, "1<22") && strings.Contains(s, "Entering"):
		return "an end"
	case strings.HasPrefix(s, "1<"):
		return s[2:]
	}
	name, _, _ := strings.Cut(s[2:], " ")
	return name
}

// goesRight tells what P20.5 wants of what a step of a session brought: whether each line to a server is one, and a command that is allowed or of which no rule tells; and whether each new pinhole is its own, and between the client and the server.
func goesRight(t *testing.T, was api.Sess, c api.Conf, h, next []api.Hole, out []api.Out) {
	t.Helper()
	for _, o := range out {
		if o.Kind != api.Send || o.Conn == was.ID {
			continue
		}
		text, is := strings.CutSuffix(string(o.B), "\r\n")
		told, no := cmd.Read(text)
		if o.Conn != was.Up || !is || strings.ContainsAny(text, "\r\n") || no != 0 || len(text) > api.MaxLine {
			t.Errorf("to %d: %q", o.Conn, o.B)
		}
		where := was.Cwd
		if strings.Contains(withPath, " "+told.Verb+" ") && told.Arg != "" {
			where = told.Arg
		}
		switch told.Verb {
		case "PASS", "ABOR", "USER":
			continue
		}
		rules := c.Tenants[was.L.Tenant].Rules
		if !acl.Allowed(rules, told.Verb, where) && (told.Verb != "CWD" || !acl.Allowed(rules, "CDUP", where)) {
			t.Errorf("not allowed, but told: %q", text)
		}
	}
	for _, x := range next {
		if slices.Contains(h, x) {
			continue
		}
		at := c.Tenants[was.L.Tenant].At.Host
		between := x.Peer == was.Peer && x.To.Host == at || x.Peer == at && x.To.Host == was.Peer
		if x.Sess != was.ID || x.Tenant != was.L.Tenant || !between || x.To.Port < 1024 || !hole.May(x) {
			t.Errorf("a pinhole %+v of %+v", x, was)
		}
	}
	for _, x := range h {
		if x.Sess != was.ID && !slices.Contains(next, x) {
			t.Errorf("%+v is gone", x)
		}
	}
}

// P20.2 to P20.5: many sessions by chance, step by step as the tests have it; what may be stays so.
func TestByChance(t *testing.T) {
	r := rand.New(rand.NewSource(20))
	counts := map[string]int{}
	c := theConf()
	c.Tenants[1].Rules = []api.Rule{{Verb: "CWD", Path: "/pub"}, {Allow: true, Path: "/"}}
	for range 700 {
		s, _ := New(1, me, 0)
		var h []api.Hole
		if r.Intn(3) == 0 {
			h = append(h, theirs)
		}
		for now := range 60 {
			if s.L.Phase == atGone && r.Intn(3) == 0 {
				break
			}
			if r.Intn(8) == 0 {
				h = hole.Sweep(h, now)
			}
			m := model{s: s, c: c, h: h, now: now, draw: r.Intn(9) - 4}
			was, had := s, h
			var out []api.Out
			waits := s.O.Pend > 0 || s.L.Phase == atGreet || s.L.Phase == atUserSent || s.L.Phase == atPassSent
			switch n := r.Intn(10); {
			case s.L.Phase == atDialing && n < 5:
				s, _ = Dialed(s, []int{2, 2, 2, -1}[r.Intn(4)])
				continue
			case n < 2, !waits && n < 9:
				x := api.Line{Text: someText(r, s), Over: r.Intn(40) == 0}
				m.line(x)
				s, h, out = Line(s, c, h, x, now, m.draw)
			default:
				x := api.Line{Text: someReply(r, s), Over: r.Intn(200) == 0}
				full := r.Intn(6) == 0
				m.reply(x, full)
				s, h, out = Reply(s, c, h, x, now, m.draw, full)
			}
			checkSess(t, "by chance", s, m.s)
			checkHoles(t, "by chance", h, m.h)
			checkOuts(t, "by chance", out, m.out...)
			counts[outcome(m.out)]++
			if !May(s) || !wantMay(s) {
				t.Fatalf("%+v may not be", s)
			}
			goesRight(t, was, c, had, h, out)
		}
	}
	for _, s := range []string{
		"nothing", "dial", "a reply", "an end", "221 Goodbye.", "421 Bad server.", "421 Too many.", "425 No port.", "425 No address.", "500 What?", "500 Too long.", "501 Not so.", "502 Not here.", "503 Not now.", "504 Not that address.", "522 Use (1).", "530 Log in first.", "530 No such host.", "550 Not allowed.",
		"USER", "PASS", "CWD", "RETR", "STOR", "LIST", "NOOP", "PWD", "SYST", "RNFR", "RNTO", "REST", "PASV", "EPSV", "PORT", "EPRT", "ABOR", "HELP",
	} {
		if counts[s] < 20 {
			t.Errorf("%s: %d times", s, counts[s])
		}
	}
}

// someSess is a session by chance, most parts of which may be.
func someSess(r *rand.Rand) api.Sess {
	s := of(r.Intn(8))
	rare := func(how func()) {
		if r.Intn(12) == 0 {
			how()
		}
	}
	rare(func() { s.ID = r.Intn(3) - 1 })
	rare(func() { s.Up = r.Intn(5) - 2 })
	rare(func() { s.L.Phase = r.Intn(11) - 1 })
	rare(func() { s.L.Tenant = r.Intn(7) - 2 })
	rare(func() { s.L.User = pick(r, "", "x", "x y", "x@y") })
	if s.L.Phase == atIn && r.Intn(2) > 0 {
		s.O = busy(pick(r, "LIST", "CWD", "CDUP", "PASV", "EPSV", "RNFR", "REST", "RETR", "ABOR"), 1+r.Intn(8))
		s.Hold = pick(r, "/h", "/", "/h")
	}
	rare(func() { s.O.Pend = r.Intn(11) - 1 })
	rare(func() { s.O.Verb = pick(r, "", "LIST", "CWD", "list", "SITE") })
	rare(func() { s.O.Start = r.Intn(4) - 2 })
	rare(func() { s.O.From = true })
	rare(func() { s.Cwd = pick(r, "", "/", "/b", "b", "/b/", "/..", long(201), long(200)) })
	rare(func() { s.Hold = pick(r, "", "/", "/b", "b", "/b/", "/..", long(201), long(200)) })
	rare(func() { s.Tel = r.Intn(5) - 1 })
	rare(func() { s.Used = []int{-1, 0, 9, maxTaken, maxTaken + 1}[r.Intn(5)] })
	rare(func() { s.Last = []int{-1, 0, 9, maxTaken, maxTaken + 1}[r.Intn(5)] })
	rare(func() {
		s.G = api.Gather{Code: []int{220, 421, 99, 600, 250}[r.Intn(5)], Lines: lines(r.Intn(21)), Open: r.Intn(3) > 0}
	})
	return s
}

// P20.1, P20.2 and P20.3: sessions by chance that may be, or may not, at any line.
func TestAnyByChance(t *testing.T) {
	r := rand.New(rand.NewSource(21))
	may, none := 0, 0
	for range 30000 {
		s := someSess(r)
		if May(s) != wantMay(s) {
			t.Fatalf("May(%+v) = %t", s, May(s))
		}
		if wantMay(s) {
			may++
		} else {
			none++
		}
		c := theConf()
		if r.Intn(20) == 0 {
			c = wrongConfs()[r.Intn(len(wrongConfs()))]
		}
		h := [][]api.Hole{nil, {pin}, {theirs}, {pin, theirs}}[r.Intn(4)]
		a := model{s: s, c: c, h: h, now: r.Intn(9) - 2, draw: r.Intn(9) - 4}
		b := a
		x := api.Line{Text: someText(r, s), Over: r.Intn(30) == 0}
		a.line(x)
		u, l, out := Line(s, c, h, x, b.now, b.draw)
		checkSess(t, x.Text, u, a.s)
		checkHoles(t, x.Text, l, a.h)
		checkOuts(t, x.Text, out, a.out...)
		x.Text = someReply(r, s)
		full := r.Intn(2) > 0
		now, draw := b.now, b.draw
		b.reply(x, full)
		v, l, out := Reply(s, c, h, x, now, draw, full)
		checkSess(t, x.Text, v, b.s)
		checkHoles(t, x.Text, l, b.h)
		checkOuts(t, x.Text, out, b.out...)
		if wantMay(s) && (!May(u) || !May(v)) {
			t.Fatalf("%+v, %+v: what may be did not stay so", u, v)
		}
	}
	if may < 7500 || none < 7500 {
		t.Errorf("%d may be, and %d may not", may, none)
	}
}
