package session

import (
	"errors"
	"fmt"
	"math"
	"slices"
	"strings"
	"testing"

	"wharfinger/api"
	"wharfinger/verb"
)

// pin is a pinhole of session 1, and theirs one of another session of the same tenant.
var (
	pin    = api.Hole{Port: 2000, Sess: 1, Peer: me, To: api.End{Host: server, Port: 4000}, Dead: 9}
	theirs = api.Hole{Port: 2001, Sess: 7, Peer: api.Host{10, 0, 0, 7}, To: api.End{Host: server, Port: 4001}, Dead: 8}
)

// line is what comes of a text from a client, at time 5 and with draw 0.
func line(s api.Sess, c api.Conf, h []api.Hole, text string) (api.Sess, []api.Hole, []api.Out) {
	return Line(s, c, h, api.Line{Text: text}, 5, 0)
}

// checkLine holds that against all that is wanted.
func checkLine(t *testing.T, s api.Sess, c api.Conf, h []api.Hole, text string, want api.Sess, wantH []api.Hole, out ...string) {
	t.Helper()
	u, l, o := line(s, c, h, text)
	checkAnswer(t, fmt.Sprintf("Line(%q) in phase %d", short(text), s.L.Phase), s, answer{u, l, o}, answer{s: want, h: wantH}, out)
}

// checkSays holds a line that the client alone is told of against that: nothing else is otherwise.
func checkSays(t *testing.T, s api.Sess, c api.Conf, h []api.Hole, text, says string) {
	t.Helper()
	checkLine(t, s, c, h, text, s, h, said(says))
}

// The chapter's example.
func TestExample(t *testing.T) {
	for _, phase := range []int{atNeedUser, atDialing, atGreet, atUserSent, atNeedPass, atPassSent} {
		checkSays(t, of(phase), theConf(), nil, "LIST", "530 Log in first.")
	}
}

// someLines are such as lead to each of what a line may come to.
var someLines = []string{
	"", "x", "SITE x", "RETR", "QUIT", "quit", "USER me@ftp.a", "USER x", "USER a@ftp.x", "PASS", "PASS p", "ACCT x", "LIST", "LIST /secret", "CWD b", "CDUP", "ABOR", "REST 5", "REST x", "RNFR a", "RNTO a", "PASV", "EPSV",
	"PORT 10,0,0,1,8,0", "PORT 10,0,0,2,8,0", "PORT x", "EPRT |1|10.0.0.1|2048|", "EPRT |2|::1|2048|", "NOOP", "CWD " + long(250),
}

// P20.2: of what may not be nothing comes, whatever the line is.
func TestLineOfNone(t *testing.T) {
	h := []api.Hole{pin, theirs}
	eachNone(func(what string, s api.Sess, c api.Conf) {
		for _, over := range []bool{false, true} {
			for _, text := range someLines {
				u, l, out := Line(s, c, h, api.Line{Text: text, Over: over}, 5, 0)
				checkSess(t, what, u, s)
				checkHoles(t, what, l, h)
				checkOuts(t, what, out)
			}
		}
	})
}

// P20.2: the last tenant there is may be one's.
func TestLineOfTheLastTenant(t *testing.T) {
	s := of(atIn)
	s.L.Tenant = 1
	want := changed(s, func(s *api.Sess) { s.O = busy("LIST", 1) })
	checkLine(t, s, theConf(), nil, "LIST /pub", want, nil, asked("LIST /pub"))
	checkSays(t, s, theConf(), nil, "LIST /a", "550 Not allowed.")
	// Where there are four, it may be each.
	c := theConf()
	for i, name := range []string{"c", "d"} {
		x := c.Tenants[0]
		x.Host, x.Low, x.High, x.At.Host = "ftp."+name, 4000+i, 4000+i, api.Host{10, byte(3 + i), 0, 1}
		c.Tenants = append(c.Tenants, x)
	}
	for tenant := range 4 {
		s := of(atNeedPass)
		s.L.Tenant = tenant
		want := changed(s, func(s *api.Sess) { s.L.Phase = atPassSent })
		checkLine(t, s, c, nil, "PASS", want, nil, asked("PASS"))
	}
}

// P20.2, R2: a line that was too long comes ahead of what it tells, in each phase.
func TestLineOver(t *testing.T) {
	for _, phase := range phases[:atGone] {
		for _, text := range someLines {
			s := of(phase)
			u, h, out := Line(s, theConf(), []api.Hole{pin}, api.Line{Text: text, Over: true}, 5, 0)
			checkSess(t, "Over", u, s)
			checkHoles(t, "Over", h, []api.Hole{pin})
			checkOuts(t, "Over", out, said("500 Too long."))
		}
	}
}

// P20.2: each error of cmd's Read, in each phase, and with something under way.
func TestLineThatIsNone(t *testing.T) {
	for says, lines := range map[string][]string{
		"500 What?":     {"", " ", "x", "LISTS", "LI ST", " LIST", "12", "PWD\x00", "LIST \x7f", "LIST \r", "LIST\n", "RETR \xff", "\xff", "Q", "LIST-a", "QUIT\r", "us er x"},
		"502 Not here.": {"SITE", "SITE x", "OPTS utf8 on", "site", "AUTH TLS", "FOO", "foo bar", "XPWD", "XCUP", "ABO", "QUI", "LPRT 1"},
		"501 Not so.":   {"USER", "USER ", "ACCT", "NOOP x", "QUIT x", "ABOR x", "CDUP x", "PWD x", "PASV x", "EPSV 1", "EPSV ALL", "RETR", "RETR ", "CWD", "PORT", "EPRT", "REST", "RNFR", "RNTO", "TYPE", "SYST x", "FEAT x", "quit x"},
	} {
		for _, text := range lines {
			for _, phase := range phases[:atGone] {
				checkSays(t, of(phase), theConf(), []api.Hole{pin}, text, says)
			}
			checkSays(t, within(busy("LIST", 8)), theConf(), nil, text, says)
			checkSays(t, of(atIn), withRules(), nil, text, says)
		}
	}
}

// P20.2: QUIT in each phase, with something under way and without: what goes out, in order, and the pinholes of this one alone are gone.
func TestLineOfQuit(t *testing.T) {
	outs := map[int][]string{
		atNeedUser: {said("221 Goodbye."), shut(1)}, atDialing: {said("221 Goodbye."), shut(1)},
		atGreet: {said("221 Goodbye."), shut(1), shut(2)}, atUserSent: {said("221 Goodbye."), shut(1), shut(2)}, atNeedPass: {said("221 Goodbye."), shut(1), shut(2)},
		atPassSent: {said("221 Goodbye."), shut(1), shut(2)}, atIn: {said("221 Goodbye."), shut(1), shut(2)},
	}
	later := pin
	later.Port, later.Dead = 2002, 0
	for _, text := range []string{"QUIT", "quit", "Quit", "QUIT "} {
		for phase, want := range outs {
			s := of(phase)
			checkLine(t, s, theConf(), nil, text, over(s), nil, want...)
			checkLine(t, s, theConf(), []api.Hole{pin, theirs, later}, text, over(s), []api.Hole{theirs}, want...)
		}
		for _, s := range []api.Sess{within(busy("LIST", 1)), within(busy("RETR", 8)), going(busy("CWD", 2), "/b"), full()} {
			checkLine(t, s, theConf(), []api.Hole{theirs, pin}, text, over(s), []api.Hole{theirs}, outs[atIn]...)
		}
		// No rule is asked.
		checkLine(t, of(atIn), withRules(), nil, text, over(of(atIn)), nil, outs[atIn]...)
	}
}

// P20.2: USER with each of login's errors, and with none, of either tenant.
func TestLineOfUser(t *testing.T) {
	h := []api.Hole{theirs}
	for _, x := range []struct {
		text, user string
		tenant     int
		at         api.End
	}{
		{"USER me@ftp.a", "me", 0, api.End{Host: server, Port: 21}},
		{"user me@ftp.b", "me", 1, api.End{Host: other, Port: 2121}},
		{"USER me@x@ftp.a", "me@x", 0, api.End{Host: server, Port: 21}},
		{"uSER " + strings.Repeat("u", 60) + "@ftp.b", strings.Repeat("u", 60), 1, api.End{Host: other, Port: 2121}},
	} {
		s := of(atNeedUser)
		want := changed(s, func(s *api.Sess) { s.L = api.Login{Phase: atDialing, Tenant: x.tenant, User: x.user} })
		checkLine(t, s, theConf(), h, x.text, want, h, dial(1, x.at))
		s.ID, want.ID = 0, 0
		checkLine(t, s, theConf(), h, x.text, want, h, dial(0, x.at))
	}
	for text, says := range map[string]string{
		"USER me":         "501 Not so.",
		"USER @ftp.a":     "501 Not so.",
		"USER me@":        "501 Not so.",
		"USER me@FTP.A":   "501 Not so.",
		"USER m e@ftp.a":  "501 Not so.",
		"USER  me@ftp.a":  "501 Not so.",
		"USER me@ftp.a ":  "501 Not so.",
		"USER me@ftp.x":   "530 No such host.",
		"USER me@ftp":     "530 No such host.",
		"USER me@a":       "530 No such host.",
		"USER me@ftp.a.b": "530 No such host.",
		"USER " + strings.Repeat("u", 61) + "@ftp.a": "501 Not so.",
	} {
		checkSays(t, of(atNeedUser), theConf(), h, text, says)
		// R2: out of order comes first.
		for _, phase := range []int{atDialing, atGreet, atUserSent, atNeedPass, atPassSent, atIn} {
			checkSays(t, of(phase), theConf(), h, text, "503 Not now.")
		}
	}
	for _, phase := range []int{atDialing, atGreet, atUserSent, atNeedPass, atPassSent, atIn} {
		checkSays(t, of(phase), theConf(), h, "USER me@ftp.a", "503 Not now.")
	}
}

// P20.2: PASS where it is waited for, which is asked on as it was told, and where it is not.
func TestLineOfPass(t *testing.T) {
	h := []api.Hole{theirs}
	for text, goes := range map[string]string{
		"PASS p": "PASS p", "pass p": "PASS p", "PASS": "PASS", "PASS ": "PASS", "pAsS  x y ": "PASS  x y ", "PASS QUIT": "PASS QUIT", "PASS ../..": "PASS ../..",
		"PASS " + strings.Repeat("~", 500): "PASS " + strings.Repeat("~", 500),
	} {
		s := of(atNeedPass)
		want := changed(s, func(s *api.Sess) { s.L.Phase = atPassSent })
		checkLine(t, s, theConf(), h, text, want, h, asked(goes))
		checkLine(t, s, withRules(), h, text, want, h, asked(goes))
		s.Up, want.Up = 0, 0
		checkLine(t, s, theConf(), h, text, want, h, "0<"+goes+"\r\n")
		for _, phase := range []int{atNeedUser, atDialing, atGreet, atUserSent, atPassSent, atIn} {
			checkSays(t, of(phase), theConf(), h, text, "503 Not now.")
		}
		checkSays(t, within(busy("LIST", 1)), theConf(), h, text, "503 Not now.")
	}
}

// P20.2: ACCT is never here.
func TestLineOfAcct(t *testing.T) {
	for _, phase := range phases[:atGone] {
		for _, text := range []string{"ACCT x", "acct x y", "ACCT me@ftp.a"} {
			checkSays(t, of(phase), theConf(), nil, text, "502 Not here.")
			checkSays(t, of(phase), withRules(), nil, text, "502 Not here.")
		}
	}
	checkSays(t, within(busy("LIST", 8)), theConf(), nil, "ACCT x", "502 Not here.")
}

// withArg is a line of a verb that may be.
func withArg(v api.Verb) string {
	if v.Arg == 0 {
		return v.Name
	}
	return v.Name + " x"
}

// P20.2: every verb there is ahead of In.
func TestLineAhead(t *testing.T) {
	count := 0
	for _, v := range verb.All() {
		switch v.Name {
		case "QUIT", "USER", "PASS", "ACCT":
			continue
		}
		for _, phase := range phases[:atIn] {
			checkSays(t, of(phase), theConf(), []api.Hole{theirs}, withArg(v), "530 Log in first.")
			checkSays(t, of(phase), withRules(), nil, withArg(v), "530 Log in first.")
			count++
		}
	}
	if count != 32*6 {
		t.Errorf("%d were told, want 192", count)
	}
}

// commands are those that go on from /a, by hand: the line, the one that the server is told, and what is under way then.
var commands = []struct{ text, goes, verb string }{
	{"ALLO 5", "ALLO 5", "ALLO"},
	{"APPE b", "APPE /a/b", "APPE"},
	{"CDUP", "CWD /", "CWD"},
	{"CWD b", "CWD /a/b", "CWD"},
	{"CWD .", "CWD /a", "CWD"},
	{"CWD ..", "CWD /", "CWD"},
	{"CWD ../../..", "CWD /", "CWD"},
	{"CWD /", "CWD /", "CWD"},
	{"CWD  b", "CWD /a/ b", "CWD"},
	{"DELE b//./c", "DELE /a/b/c", "DELE"},
	{"EPSV", "EPSV", "EPSV"},
	{"FEAT", "FEAT", "FEAT"},
	{"HELP", "HELP", "HELP"},
	{"HELP ../x", "HELP ../x", "HELP"},
	{"LIST", "LIST", "LIST"},
	{"LIST ", "LIST", "LIST"},
	{"LIST -la", "LIST /a/-la", "LIST"},
	{"MDTM b", "MDTM /a/b", "MDTM"},
	{"MKD b/", "MKD /a/b", "MKD"},
	{"MLSD", "MLSD", "MLSD"},
	{"MLSD b", "MLSD /a/b", "MLSD"},
	{"MLST", "MLST", "MLST"},
	{"MLST b", "MLST /a/b", "MLST"},
	{"MODE S", "MODE S", "MODE"},
	{"NLST", "NLST", "NLST"},
	{"NLST /b/../c", "NLST /c", "NLST"},
	{"NOOP", "NOOP", "NOOP"},
	{"PASV", "PASV", "PASV"},
	{"PWD", "PWD", "PWD"},
	{"REST 5", "REST 5", "REST"},
	{"retr b c", "RETR /a/b c", "RETR"},
	{"RMD b", "RMD /a/b", "RMD"},
	{"RNFR b", "RNFR /a/b", "RNFR"},
	{"SIZE b", "SIZE /a/b", "SIZE"},
	{"STAT", "STAT", "STAT"},
	{"STAT b", "STAT /a/b", "STAT"},
	{"STOR b", "STOR /a/b", "STOR"},
	{"STRU F", "STRU F", "STRU"},
	{"SYST", "SYST", "SYST"},
	{"type I", "TYPE I", "TYPE"},
	{"TYPE  I ", "TYPE  I ", "TYPE"},
}

// P20.2: what goes on does so in one form, with where it leads to; what is under way then; and where the session would be.
func TestLineGoesOn(t *testing.T) {
	h := []api.Hole{pin, theirs}
	var told []string
	for _, x := range commands {
		told = append(told, x.verb)
		want := within(busy(x.verb, 1))
		if x.verb == "CWD" {
			want.Hold = strings.TrimPrefix(x.goes, "CWD ")
		}
		if x.verb == "REST" {
			want.O.Start = 5
		}
		checkLine(t, of(atIn), theConf(), h, x.text, want, h, asked(x.goes))
		s := of(atIn)
		s.Up, want.Up = 0, 0
		checkLine(t, s, theConf(), h, x.text, want, h, "0<"+x.goes+"\r\n")
		// R2: it does not while another one is under way, nor where no rule allows it.
		for _, o := range []api.Order{busy("LIST", 1), busy("NOOP", 8), busy("PASV", 2)} {
			checkSays(t, within(o), theConf(), h, x.text, "503 Not now.")
			checkSays(t, within(o), withRules(), h, x.text, "550 Not allowed.")
		}
		checkSays(t, of(atIn), withRules(), h, x.text, "550 Not allowed.")
	}
	slices.Sort(told)
	if n := len(slices.Compact(told)); n != 27 { // all, but for those of Enter, Point, Stop, Quit and Second, and CDUP, which goes on as CWD
		t.Errorf("%d verbs went on, want 27", n)
	}
}

// P20.2: where a session was going stays till the next directory is asked for.
func TestLineKeepsHold(t *testing.T) {
	s := going(idle, "/h")
	want := going(busy("LIST", 1), "/h")
	checkLine(t, s, theConf(), nil, "LIST", want, nil, asked("LIST"))
	want = going(busy("CWD", 1), "/a/b")
	checkLine(t, s, theConf(), nil, "CWD b", want, nil, asked("CWD /a/b"))
	checkSays(t, s, theConf(), nil, "CWD /secret", "550 Not allowed.")
}

// P20.2: CDUP goes on as CWD, from wherever the session is.
func TestLineOfCdup(t *testing.T) {
	for from, to := range map[string]string{"/": "/", "/a": "/", "/a/b": "/a", "/a/b/c d": "/a/b", "/pub/x": "/pub", long(100) + long(100): long(100)} {
		s := of(atIn)
		s.Cwd = from
		want := changed(s, func(s *api.Sess) { s.O, s.Hold = busy("CWD", 1), to })
		checkLine(t, s, theConf(), nil, "CDUP", want, nil, asked("CWD "+to))
		checkLine(t, s, theConf(), nil, "cdup ", want, nil, asked("CWD "+to))
	}
}

// P20.2: a path may have 200 bytes, whatever the way to it is.
func TestLineOfLongPaths(t *testing.T) {
	s := of(atIn)
	s.Cwd = long(100)
	for _, x := range []struct {
		arg, where string
	}{
		{strings.Repeat("y", 99), long(100) + "/" + strings.Repeat("y", 99)},
		{strings.Repeat("y", 100), ""},
		{strings.Repeat("y", 150) + "/..", long(100)},
		{long(200), long(200)},
		{long(201), ""},
		{long(400), ""},
		{long(400) + "/..", "/"},
	} {
		for _, name := range []string{"CWD", "RETR", "STAT", "MKD", "LIST"} {
			if x.where == "" {
				checkSays(t, s, theConf(), nil, name+" "+x.arg, "501 Not so.")
				// R2: that comes ahead of rules, and of what is under way.
				checkSays(t, s, withRules(), nil, name+" "+x.arg, "501 Not so.")
				checkSays(t, changed(s, func(s *api.Sess) { s.O = busy("LIST", 1) }), theConf(), nil, name+" "+x.arg, "501 Not so.")
				continue
			}
			want := changed(s, func(s *api.Sess) { s.O = busy(name, 1) })
			if name == "CWD" {
				want.Hold = x.where
			}
			checkLine(t, s, theConf(), nil, name+" "+x.arg, want, nil, asked(name+" "+x.where))
		}
		// An argument that is no path may be as long as a line has room for.
		want := changed(s, func(s *api.Sess) { s.O = busy("HELP", 1) })
		checkLine(t, s, theConf(), nil, "HELP "+x.arg, want, nil, asked("HELP "+x.arg))
	}
}

// P20.2: rules tell by the verb, and by the path that it leads to; the first one that does is told by.
func TestLineByRules(t *testing.T) {
	all := api.Rule{Allow: true, Path: "/"}
	for _, x := range []struct {
		rules []api.Rule
		cwd   string
		text  string
		goes  string
	}{
		{nil, "/a", "LIST", ""},
		{[]api.Rule{all}, "/a", "LIST", "LIST"},
		{[]api.Rule{{Path: "/"}, all}, "/a", "LIST", ""},
		{[]api.Rule{all, {Path: "/"}}, "/a", "LIST", "LIST"},
		// A verb without a path is where the session is.
		{[]api.Rule{{Path: "/a"}, all}, "/a", "LIST", ""},
		{[]api.Rule{{Path: "/a"}, all}, "/a", "LIST ", ""},
		{[]api.Rule{{Path: "/a"}, all}, "/a", "NOOP", ""},
		{[]api.Rule{{Path: "/a"}, all}, "/a", "TYPE /b", ""},
		{[]api.Rule{{Path: "/b"}, all}, "/a", "TYPE /b", "TYPE /b"},
		{[]api.Rule{{Path: "/a"}, all}, "/ab", "NOOP", "NOOP"},
		{[]api.Rule{{Path: "/a"}, all}, "/a/b", "NOOP", ""},
		{[]api.Rule{{Path: "/a/b"}, all}, "/a", "NOOP", "NOOP"},
		// One with a path is where that leads.
		{[]api.Rule{{Path: "/a"}, all}, "/a", "RETR /b", "RETR /b"},
		{[]api.Rule{{Path: "/a"}, all}, "/a", "RETR ../b", "RETR /b"},
		{[]api.Rule{{Path: "/b"}, all}, "/a", "RETR ../b", ""},
		{[]api.Rule{{Path: "/b"}, all}, "/a", "RETR ../b/c", ""},
		{[]api.Rule{{Path: "/b"}, all}, "/a", "RETR ../../../x/../b/./c", ""},
		{[]api.Rule{{Path: "/b"}, all}, "/b", "CWD ..", "CWD /"},
		{[]api.Rule{{Path: "/a/b"}, all}, "/a", "CWD b", ""},
		// A rule may tell of one verb.
		{[]api.Rule{{Verb: "RETR", Path: "/"}, all}, "/a", "RETR b", ""},
		{[]api.Rule{{Verb: "RETR", Path: "/"}, all}, "/a", "retr b", ""},
		{[]api.Rule{{Verb: "RETR", Path: "/"}, all}, "/a", "SIZE b", "SIZE /a/b"},
		{[]api.Rule{{Allow: true, Verb: "RETR", Path: "/a"}, {Path: "/"}}, "/a", "RETR b", "RETR /a/b"},
		{[]api.Rule{{Allow: true, Verb: "RETR", Path: "/a"}, {Path: "/"}}, "/a", "RETR ../b", ""},
		{[]api.Rule{{Allow: true, Verb: "PASV", Path: "/"}}, "/a", "PASV", "PASV"},
		{[]api.Rule{{Allow: true, Verb: "PASV", Path: "/"}}, "/a", "EPSV", ""},
		// CDUP is asked of as itself, though it goes on as CWD.
		{[]api.Rule{{Verb: "CDUP", Path: "/"}, all}, "/a", "CDUP", ""},
		{[]api.Rule{{Verb: "CWD", Path: "/"}, all}, "/a", "CDUP", "CWD /"},
		{[]api.Rule{{Verb: "CDUP", Path: "/a"}, all}, "/a", "CDUP", "CWD /"},
		{[]api.Rule{{Verb: "CDUP", Path: "/a"}, all}, "/a/b", "CDUP", ""},
		{[]api.Rule{{Allow: true, Path: "/a/b"}}, "/a/b", "CDUP", ""},
		{[]api.Rule{{Verb: "CDUP", Path: "/"}, all}, "/a", "CWD ..", "CWD /"},
	} {
		s := of(atIn)
		s.Cwd = x.cwd
		c := withRules(x.rules...)
		if x.goes == "" {
			checkSays(t, s, c, []api.Hole{pin}, x.text, "550 Not allowed.")
			continue
		}
		name, arg, _ := strings.Cut(x.goes, " ")
		want := changed(s, func(s *api.Sess) { s.O = busy(name, 1) })
		if name == "CWD" {
			want.Hold = arg
		}
		checkLine(t, s, c, []api.Hole{pin}, x.text, want, []api.Hole{pin}, asked(x.goes))
	}
}

// P20.2, R2: rules come ahead of an end that is told, of what is under way, and of ports.
func TestLineRulesFirst(t *testing.T) {
	for _, text := range []string{"PORT 10,0,0,1,8,0", "PORT 10,0,0,2,8,0", "PORT x", "EPRT |2|::1|2048|", "EPRT x", "REST x", "REST 5", "RNTO b", "LIST"} {
		for _, s := range []api.Sess{of(atIn), within(busy("LIST", 8))} {
			checkSays(t, s, withRules(), []api.Hole{pin, theirs}, text, "550 Not allowed.")
		}
	}
}

// P20.2: ABOR, of which no rule is asked, goes on beside what is under way, and takes the pinholes of this session with it.
func TestLineOfAbor(t *testing.T) {
	for _, c := range []api.Conf{theConf(), withRules(), withRules(api.Rule{Verb: "ABOR", Path: "/"})} {
		for pend := 1; pend <= 7; pend++ {
			for _, text := range []string{"ABOR", "abor", "ABOR "} {
				s := within(api.Order{Verb: "RETR", Pend: pend, Start: 9})
				want := within(api.Order{Verb: "RETR", Pend: pend + 1, Start: 9})
				checkLine(t, s, c, []api.Hole{pin, theirs, pin}, text, want, []api.Hole{theirs}, asked("ABOR"))
				checkLine(t, s, c, nil, text, want, nil, asked("ABOR"))
			}
		}
		h := []api.Hole{pin, theirs}
		checkSays(t, of(atIn), c, h, "ABOR", "503 Not now.")
		checkSays(t, within(busy("RETR", 8)), c, h, "ABOR", "503 Not now.")
	}
	s := going(busy("CWD", 1), "/b")
	checkLine(t, s, theConf(), nil, "ABOR", going(busy("CWD", 2), "/b"), nil, asked("ABOR"))
}

// P20.2: what order has an error of.
func TestLineOutOfOrder(t *testing.T) {
	h := []api.Hole{pin}
	for text, says := range map[string]string{
		"RNTO b": "503 Not now.", "ABOR": "503 Not now.",
		"REST x": "501 Not so.", "REST -1": "501 Not so.", "REST 05": "501 Not so.", "REST 5 ": "501 Not so.", "REST 1099511627777": "501 Not so.", "REST  5": "501 Not so.",
	} {
		checkSays(t, of(atIn), theConf(), h, text, says)
	}
	for _, text := range []string{"REST x", "REST 5", "RNTO b", "LIST", "CWD b", "CDUP"} {
		checkSays(t, within(busy("LIST", 1)), theConf(), h, text, "503 Not now.")
		checkSays(t, within(api.Order{Verb: "RNFR", Pend: 1, From: true, Start: -1}), theConf(), h, text, "503 Not now.")
	}
	// Behind a RNFR that was answered, and a REST, that is in order.
	s := within(api.Order{From: true, Start: 7})
	checkLine(t, s, theConf(), h, "RNTO b", within(busy("RNTO", 1)), h, asked("RNTO /a/b"))
	checkLine(t, s, theConf(), h, "RETR b", within(api.Order{Verb: "RETR", Pend: 1, Start: 7}), h, asked("RETR /a/b"))
	checkLine(t, s, theConf(), h, "REST 1099511627776", within(api.Order{Verb: "REST", Pend: 1, Start: maxTaken}), h, asked("REST 1099511627776"))
	checkLine(t, s, theConf(), h, "REST 0", within(api.Order{Verb: "REST", Pend: 1}), h, asked("REST 0"))
}

// badEnds are what turn has an error of, each with what is said.
var badEnds = map[string]string{
	"EPRT |2|::1|2048|":              "522 Use (1).",
	"EPRT |2|10.0.0.1|2048|":         "522 Use (1).",
	"EPRT |3|x|x|":                   "522 Use (1).",
	"PORT 10,0,0,2,8,0":              "504 Not that address.",
	"PORT 10,1,0,1,8,0":              "504 Not that address.",
	"PORT 10,0,0,9,8,0":              "504 Not that address.",
	"PORT 10,0,0,1,3,255":            "504 Not that address.",
	"PORT 10,0,0,1,0,21":             "504 Not that address.",
	"PORT 0,0,0,0,0,0":               "504 Not that address.",
	"EPRT |1|10.0.0.2|2048|":         "504 Not that address.",
	"EPRT |1|10.0.0.1|1023|":         "504 Not that address.",
	"EPRT |1|10.1.0.1|2048|":         "504 Not that address.",
	"PORT 1":                         "501 Not so.",
	"PORT 10,0,0,1,8":                "501 Not so.",
	"PORT 10,0,0,1,8,256":            "501 Not so.",
	"PORT 10,0,0,1,8,0 ":             "501 Not so.",
	"PORT |1|10.0.0.1|2048|":         "501 Not so.",
	"EPRT 10,0,0,1,8,0":              "501 Not so.",
	"EPRT |1|10.0.0.1|65536|":        "501 Not so.",
	"EPRT |1|10.0.0.1|0|":            "501 Not so.",
	"EPRT |0|10.0.0.1|2048|":         "501 Not so.",
	"EPRT |1|10.0.0.1|2048":          "501 Not so.",
	"EPRT |1|10.0.0.1|2048|x":        "501 Not so.",
	"port x":                         "501 Not so.",
	"PORT " + strings.Repeat(",", 9): "501 Not so.",
}

// P20.2, R2: an end that may not be told comes ahead of what is under way, and of ports.
func TestLineOfBadEnds(t *testing.T) {
	for text, says := range badEnds {
		for _, h := range [][]api.Hole{nil, {pin}, {pin, theirs}} {
			checkSays(t, of(atIn), theConf(), h, text, says)
			checkSays(t, within(busy("LIST", 8)), theConf(), h, text, says)
		}
	}
}

// points are lines that tell the client's own end, port 2048.
var points = []string{"PORT 10,0,0,1,8,0", "EPRT |1|10.0.0.1|2048|", "port 10,0,0,1,8,0", "EPRT !1!10.0.0.1!2048!"}

// goesBy is what the server is told in a point's place: an end of the gateway's.
func goesBy(text string, port int) string {
	if verb.Upper(text[:4]) == "PORT" {
		return fmt.Sprintf("PORT 10,0,0,9,%d,%d", port/256, port%256)
	}
	return fmt.Sprintf("EPRT |1|10.0.0.9|%d|", port)
}

// P20.2: the server may come to the client's end by a port of the tenant's, which it is told in its place; by hand.
func TestLineOfPoint(t *testing.T) {
	checkLine(t, of(atIn), theConf(), nil, "PORT 10,0,0,1,8,0", within(busy("PORT", 1)),
		[]api.Hole{{Port: 2000, Sess: 1, Tenant: 0, Peer: api.Host{10, 1, 0, 1}, To: api.End{Host: api.Host{10, 0, 0, 1}, Port: 2048}, Dead: 15}}, asked("PORT 10,0,0,9,7,208"))
	checkLine(t, of(atIn), theConf(), []api.Hole{pin}, "eprt ~1~10.0.0.1~65535~", within(busy("EPRT", 1)),
		[]api.Hole{pin, {Port: 2001, Sess: 1, Tenant: 0, Peer: api.Host{10, 1, 0, 1}, To: api.End{Host: api.Host{10, 0, 0, 1}, Port: 65535}, Dead: 15}}, asked("EPRT |1|10.0.0.9|2001|"))
	s := of(atIn)
	s.ID, s.Up, s.L.Tenant = 4, 0, 1
	c := theConf()
	c.Tenants[1].Rules = c.Tenants[0].Rules
	checkLine(t, s, c, []api.Hole{theirs}, "PORT 10,0,0,1,4,0", changed(s, func(s *api.Sess) { s.O = busy("PORT", 1) }),
		[]api.Hole{theirs, {Port: 3000, Sess: 4, Tenant: 1, Peer: api.Host{10, 2, 0, 1}, To: api.End{Host: api.Host{10, 0, 0, 1}, Port: 1024}, Dead: 15}}, "0<PORT 10,0,0,9,11,184\r\n")
}

// P20.2: which port it is hangs on the draw, and on those that are had, by whomever.
func TestLineOfPointByDraw(t *testing.T) {
	far := api.Hole{Port: 2000, Sess: 9, Tenant: 3, Peer: me, To: api.End{Host: me, Port: 2000}, Dead: 1}
	for _, x := range []struct {
		draw int
		h    []api.Hole
		port int
	}{
		{0, nil, 2000}, {1, nil, 2001}, {2, nil, 2002}, {3, nil, 2000}, {-1, nil, 2002}, {-2, nil, 2001}, {-3, nil, 2000}, {math.MaxInt, nil, 2001}, {math.MinInt, nil, 2001},
		{0, []api.Hole{pin}, 2001}, {1, []api.Hole{pin}, 2001}, {2, []api.Hole{pin}, 2002}, {3, []api.Hole{pin}, 2001},
		{0, []api.Hole{theirs}, 2000}, {1, []api.Hole{theirs}, 2002}, {2, []api.Hole{theirs}, 2002},
		{0, []api.Hole{far, theirs}, 2002}, {1, []api.Hole{far, theirs}, 2002}, {0, []api.Hole{far}, 2001},
	} {
		for _, text := range points {
			want := append(slices.Clone(x.h), api.Hole{Port: x.port, Sess: 1, Peer: server, To: api.End{Host: me, Port: 2048}, Dead: 15})
			u, h, out := Line(of(atIn), theConf(), x.h, api.Line{Text: text}, 5, x.draw)
			what := fmt.Sprintf("%s, draw %d", text, x.draw)
			checkSess(t, what, u, within(busy(verb.Upper(text[:4]), 1)))
			checkHoles(t, what, h, want)
			checkOuts(t, what, out, asked(goesBy(text, x.port)))
		}
	}
}

// P20.2: with no port free, or as many pinholes as may be, nothing is otherwise; what is under way comes ahead of that.
func TestLineOfPointWithoutPort(t *testing.T) {
	third := pin
	third.Port = 2002
	second := theirs
	second.Tenant = 1
	for _, x := range []struct {
		h    []api.Hole
		full bool
	}{
		{[]api.Hole{pin, theirs}, true},
		{[]api.Hole{theirs, third}, true},
		{[]api.Hole{pin, theirs, third}, true},
		{[]api.Hole{pin, second}, false},
		{[]api.Hole{pin, second, third}, true},
		{[]api.Hole{pin}, false},
		{[]api.Hole{{Port: 1, Tenant: 0}, {Port: 2, Tenant: 0}}, true},
		{[]api.Hole{{Port: 1, Tenant: 1}, {Port: 2, Tenant: 2}, {Port: 3, Tenant: -1}}, false},
	} {
		for _, text := range points {
			for draw := -3; draw <= 3; draw++ {
				u, h, out := Line(of(atIn), theConf(), x.h, api.Line{Text: text}, 5, draw)
				if !x.full {
					if len(h) != len(x.h)+1 || len(out) != 1 || out[0].Conn != 2 || u.O.Pend != 1 {
						t.Errorf("%s with %+v: %+v, %q", text, x.h, h, texts(out))
					}
					continue
				}
				checkSess(t, text, u, of(atIn))
				checkHoles(t, text, h, x.h)
				checkOuts(t, text, out, said("425 No port."))
			}
			checkSays(t, within(busy("LIST", 1)), theConf(), x.h, text, "503 Not now.")
		}
	}
	// As many as its Holes tell.
	c := theConf()
	for most := 1; most <= 8; most++ {
		c.Tenants[0].High, c.Tenants[0].Holes = 2010, most
		var h []api.Hole
		for n := range 10 {
			u, l, out := Line(of(atIn), c, h, api.Line{Text: points[0]}, 5, 0)
			if fits := n < most; fits != (len(l) == n+1) || fits != (u.O.Pend == 1) || !fits && texts(out)[0] != said("425 No port.") {
				t.Errorf("with %d of %d: %+v, %q", n, most, l, texts(out))
			}
			h = l
		}
		if len(h) != most {
			t.Errorf("%d were granted, want %d", len(h), most)
		}
	}
}

// P20.2: a pinhole lives as long as Life tells, from the time on, and never beyond the greatest one.
func TestLineOfPointByTime(t *testing.T) {
	for _, x := range []struct{ now, life, dead int }{
		{0, 1, 1}, {0, 10, 10}, {5, 10, 15}, {5, 1, 6}, {-1, 10, 10}, {math.MinInt, 10, 10},
		{maxTaken - 10, 10, maxTaken}, {maxTaken - 11, 10, maxTaken - 1}, {maxTaken, 10, maxTaken}, {maxTaken + 1, 10, maxTaken}, {math.MaxInt, 10, maxTaken}, {0, maxTaken, maxTaken}, {5, maxTaken, maxTaken}, {math.MaxInt, maxTaken, maxTaken},
	} {
		c := theConf()
		c.Life = x.life
		_, h, out := Line(of(atIn), c, nil, api.Line{Text: points[0]}, x.now, 0)
		what := fmt.Sprintf("now %d, Life %d", x.now, x.life)
		checkHoles(t, what, h, []api.Hole{{Port: 2000, Sess: 1, Peer: server, To: api.End{Host: me, Port: 2048}, Dead: x.dead}})
		checkOuts(t, what, out, asked("PORT 10,0,0,9,7,208"))
		// With no port there is none at any time.
		u, h, out := Line(of(atIn), c, []api.Hole{pin, theirs}, api.Line{Text: points[0]}, x.now, 0)
		checkSess(t, what, u, of(atIn))
		checkHoles(t, what, h, []api.Hole{pin, theirs})
		checkOuts(t, what, out, said("425 No port."))
	}
}

// somePorts are ports all over, with those at the edges; just fine of them are ones to which data may go.
func somePorts() (ports []int, fine int) {
	for n := 0; n < 65536; n += 31 {
		ports = append(ports, n)
	}
	ports = append(ports, 1022, 1023, 1024, 1025, 1279, 1280, 65279, 65280, 65534, 65535)
	for _, n := range ports {
		if n > 1023 {
			fine++
		}
	}
	return ports, fine
}

// P20.2: ports all over that a client may tell.
func TestLineOfPorts(t *testing.T) {
	ports, fine := somePorts()
	for _, port := range ports {
		u, h, out := line(of(atIn), theConf(), nil, fmt.Sprintf("PORT 10,0,0,1,%d,%d", port/256, port%256))
		if port < 1024 {
			checkHoles(t, "PORT", h, nil)
			checkOuts(t, "PORT", out, said("504 Not that address."))
			continue
		}
		fine--
		checkSess(t, "PORT", u, within(busy("PORT", 1)))
		checkHoles(t, "PORT", h, []api.Hole{{Port: 2000, Sess: 1, Peer: server, To: api.End{Host: me, Port: port}, Dead: 15}})
		checkOuts(t, "PORT", out, asked("PORT 10,0,0,9,7,208"))
	}
	if fine != 0 || len(ports) != 2125 {
		t.Errorf("of %d ports %d were not told", len(ports), fine)
	}
}

// P20.2: what is under way, and where the session would be, alone are otherwise behind a line that does not end it.
func TestLineKeepsTheRest(t *testing.T) {
	s := full()
	s.O, s.Hold, s.L.Tenant = idle, "", 0
	for _, text := range append(slices.Clone(someLines), "RETR b", "CWD b", "TYPE I") {
		u, _, _ := line(s, theConf(), nil, text)
		if u.L.Phase == atGone {
			continue
		}
		u.O, u.Hold = s.O, s.Hold
		checkSess(t, text, u, s)
	}
}

// Ways: why a line does not go on is told by an error that errors.As finds.
func TestFaults(t *testing.T) {
	for text, want := range map[string]string{"x": "500 What?", "SITE": "502 Not here.", "LIST x": "", "RNTO x": "503 Not now.", "STOR /pub": "550 Not allowed."} {
		w := begun(of(atIn), theConf(), nil, 5, 0)
		_, err := comesTo(told{work: w, line: api.Line{Text: text}})
		var f fault
		if errors.As(err, &f) != (want != "") || f.line != want || want != "" && err.Error() != want {
			t.Errorf("%s: %v, want %q", text, err, want)
		}
	}
}
