package session

import (
	"fmt"
	"math"
	"slices"
	"strings"
	"testing"

	"wharfinger/api"
	"wharfinger/verb"
)

// heard is what comes of a text from a server, at time 5 and with draw 0, where not as many sessions as may be are in.
func heard(s api.Sess, c api.Conf, h []api.Hole, text string) (api.Sess, []api.Hole, []api.Out) {
	return Reply(s, c, h, api.Line{Text: text}, 5, 0, false)
}

// checkReply holds that against all that is wanted.
func checkReply(t *testing.T, s api.Sess, c api.Conf, h []api.Hole, text string, want api.Sess, wantH []api.Hole, out ...string) {
	t.Helper()
	u, l, o := heard(s, c, h, text)
	checkAnswer(t, fmt.Sprintf("Reply(%q) in phase %d", short(text), s.L.Phase), s, answer{u, l, o}, answer{s: want, h: wantH}, out)
}

// checkBad holds a server's line against one by which it is left, whether as many sessions as may be are in or not.
func checkBad(t *testing.T, s api.Sess, x api.Line) {
	t.Helper()
	for _, full := range []bool{false, true} {
		u, h, out := Reply(s, theConf(), []api.Hole{pin, theirs, pin}, x, 5, 0, full)
		what := fmt.Sprintf("Reply(%q) in phase %d", short(x.Text), s.L.Phase)
		checkSess(t, what, u, over(s))
		checkHoles(t, what, h, []api.Hole{theirs})
		checkOuts(t, what, out, said("421 Bad server."), shut(1), shut(2))
	}
}

// replies are such as lead to each of what a server's line may come to.
var replies = []string{"", "x", "220 hi", "220-hi", "331 p", "230 in", "232 in", "530 no", "421 off", "150 on", "200 ok", "250 ok", "350 on", "227 (10,1,0,1,8,0)", "229 (|||2048|)", "227 x", "099 x", "600 x"}

// withUp are the phases in which there is a server.
var withUp = []int{atGreet, atUserSent, atNeedPass, atPassSent, atIn}

// P20.3: of what may not be nothing comes, nor where there is no server.
func TestReplyOfNone(t *testing.T) {
	h := []api.Hole{pin, theirs}
	check := func(what string, s api.Sess, c api.Conf) {
		for _, text := range replies {
			for i := range 4 {
				u, l, out := Reply(s, c, h, api.Line{Text: text, Over: i > 1}, 5, 0, i%2 > 0)
				checkSess(t, what, u, s)
				checkHoles(t, what, l, h)
				checkOuts(t, what, out)
			}
		}
	}
	eachNone(check)
	for _, phase := range []int{atNeedUser, atDialing} {
		check(fmt.Sprintf("phase %d", phase), of(phase), theConf())
	}
}

// gathered is a session of which some of a reply has come.
func gathered(s api.Sess, code int, lines ...string) api.Sess {
	s.G = api.Gather{Code: code, Lines: lines, Open: true}
	return s
}

// lines are n of them.
func lines(n int) []string {
	var all []string
	for i := range n {
		all = append(all, fmt.Sprintf("line %d", i))
	}
	return all
}

// P20.3: a line that was too long, or of which reply's Take has an error, in each phase.
func TestReplyThatIsNone(t *testing.T) {
	for _, phase := range withUp {
		s := of(phase)
		for _, text := range replies {
			checkBad(t, s, api.Line{Text: text, Over: true})
			checkBad(t, gathered(s, 220, "x"), api.Line{Text: text, Over: true})
		}
		for _, text := range []string{"", "x", "22", "22 x", "099 x", "000 x", "600 x", "999", "2200 x", "220x", "220_x", " 220 x", "+20 x", "220 \x7f", "220\tx", "220 x\r", "\xff", "220-\x00", "220 " + strings.Repeat("x", 501), "220-" + strings.Repeat("x", 501)} {
			checkBad(t, s, api.Line{Text: text})
		}
		for _, text := range []string{"\x00", "x\x7f", "\r", "220 x\n", "220 \xff", strings.Repeat("x", 505), "220 " + strings.Repeat("x", 501)} {
			checkBad(t, gathered(s, 220, "x"), api.Line{Text: text})
		}
		// There is room for twenty lines, of which the last one ends the reply.
		for _, n := range []int{19, 20, 30} {
			checkBad(t, gathered(s, 220, lines(n)...), api.Line{Text: "more"})
		}
		for _, n := range []int{20, 30} {
			checkBad(t, gathered(s, 220, lines(n)...), api.Line{Text: "220 x"})
		}
	}
	for _, s := range []api.Sess{within(busy("LIST", 1)), going(busy("CWD", 8), "/b"), within(busy("PASV", 2))} {
		checkBad(t, s, api.Line{Text: "x"})
		checkBad(t, s, api.Line{Text: "227 (10,1,0,1,8,0)", Over: true})
	}
}

// P20.3: a reply that may not be, out of lines each of which may come: of more than 500 bytes.
func TestReplyThatMayNotBe(t *testing.T) {
	for _, phase := range withUp {
		s := of(phase)
		checkBad(t, gathered(s, 220, "a", strings.Repeat("x", 501)), api.Line{Text: "220 b"})
		checkBad(t, gathered(s, 220, "a", "220 b"), api.Line{Text: "220 c"})
		checkBad(t, gathered(s, 220, "\xff"), api.Line{Text: "220"})
		checkBad(t, gathered(s, 99, "a"), api.Line{Text: "99 b"})
		checkBad(t, gathered(s, 600, "a"), api.Line{Text: "600 b"})
		// Line by line: one of 504 bytes is taken, but the reply it is in may not be.
		u, _, out := heard(gathered(s, 220, "a"), theConf(), nil, strings.Repeat("x", 504))
		checkOuts(t, "a long line", out)
		checkBad(t, u, api.Line{Text: "220 b"})
	}
}

// P20.3: as long as lines tell no reply they are kept, and nothing goes out.
func TestReplyOfSeveralLines(t *testing.T) {
	h := []api.Hole{pin, theirs}
	for _, phase := range withUp {
		s := of(phase)
		checkReply(t, s, theConf(), h, "220-hi", gathered(s, 220, "hi"), h)
		checkReply(t, s, theConf(), h, "220-", gathered(s, 220, ""), h)
		checkReply(t, gathered(s, 220, "hi"), theConf(), h, "", gathered(s, 220, "hi", ""), h)
		checkReply(t, gathered(s, 220, "hi"), theConf(), h, "421 off", gathered(s, 220, "hi", "421 off"), h)
		checkReply(t, gathered(s, 220, "hi"), theConf(), h, "220-more", gathered(s, 220, "hi", "220-more"), h)
		checkReply(t, gathered(s, 220, "hi"), theConf(), h, " 220 x", gathered(s, 220, "hi", " 220 x"), h)
		checkReply(t, gathered(s, 220, lines(18)...), theConf(), h, "more", gathered(s, 220, append(lines(18), "more")...), h)
		// What is kept of one that is not open is no matter.
		stale := s
		stale.G = api.Gather{Code: 220, Lines: []string{"x"}}
		checkReply(t, stale, theConf(), h, "331-p", gathered(s, 331, "p"), h)
	}
	// All lines are passed on as one reply.
	s := of(atUserSent)
	for _, text := range []string{"331-a", " b", "c 331", "331-d"} {
		u, l, out := heard(s, theConf(), h, text)
		checkHoles(t, text, l, h)
		checkOuts(t, text, out)
		s = u
	}
	want := of(atNeedPass)
	checkReply(t, s, theConf(), h, "331 e", want, h, said("331-a", " b", "c 331", "331-d", "331 e"))
	checkReply(t, s, theConf(), h, "331", want, h, said("331-a", " b", "c 331", "331-d", "331 "))
	// So are twenty.
	s = gathered(of(atUserSent), 331, lines(19)...)
	all := append([]string{"331-line 0"}, append(lines(19)[1:], "331 end")...)
	checkReply(t, s, theConf(), h, "331 end", want, h, said(all...))
	// And 500 bytes.
	s = of(atUserSent)
	checkReply(t, s, theConf(), h, "331 "+strings.Repeat("x", 500), want, h, said("331 "+strings.Repeat("x", 500)))
}

// P20.3: what a server tells ahead of In, by each code there is.
func TestReplyAhead(t *testing.T) {
	h := []api.Hole{pin, theirs}
	counts := map[string]int{}
	for _, phase := range withUp[:4] {
		for code := 100; code <= 599; code++ {
			text := fmt.Sprintf("%d x y", code)
			s := of(phase)
			s.S, s.C, s.Hold = api.Framer{B: []byte("s")}, api.Framer{B: []byte("c")}, "/h"
			want := s
			var out []string
			act := "nothing"
			switch {
			case code < 200 || phase == atNeedPass:
			case phase == atGreet && code == 220:
				act, want.L.Phase, out = "user", atUserSent, []string{asked("USER me")}
			case phase == atUserSent && code == 331:
				act, want.L.Phase, out = "on", atNeedPass, []string{said(text)}
			case phase != atGreet && (code == 230 || code == 232):
				act, want.L.Phase, want.Cwd, out = "in", atIn, "/", []string{said(text)}
			default:
				act, want.L, want.Up, out = "off", api.Login{Tenant: -1}, -1, []string{said(text), shut(2)}
			}
			counts[act]++
			checkReply(t, s, theConf(), h, text, want, h, out...)
			// R5 beside: whether as many as may be are in matters just to one that would be in, too.
			u, l, o := Reply(s, theConf(), h, api.Line{Text: text}, 5, 0, true)
			if act == "in" {
				want, out = over(s), []string{said("421 Too many."), shut(1), shut(2)}
			}
			checkSess(t, text, u, want)
			if act == "in" {
				checkHoles(t, text, l, []api.Hole{theirs})
			} else {
				checkHoles(t, text, l, h)
			}
			checkOuts(t, text, o, out...)
		}
	}
	// 500 of NeedPass, and 100 of each other one; the rest by what leads on.
	for act, n := range map[string]int{"nothing": 800, "user": 1, "on": 1, "in": 4, "off": 1194} {
		if counts[act] != n {
			t.Errorf("%s: %d, want %d", act, counts[act], n)
		}
	}
}

// P20.3: the same with replies of more than one line, and whole, by hand.
func TestReplyLogsIn(t *testing.T) {
	s := of(atGreet)
	s.L.User, s.Up = "me@x", 0
	u, h, out := heard(gathered(s, 220, "a", "b"), theConf(), nil, "220")
	s.L.Phase = atUserSent
	checkSess(t, "greeting", u, s)
	checkHoles(t, "greeting", h, nil)
	checkOuts(t, "greeting", out, "0<USER me@x\r\n")
	s = of(atPassSent)
	want := of(atIn)
	want.Cwd = "/"
	checkReply(t, gathered(s, 230, "a"), theConf(), nil, "230 b", want, nil, said("230-a", "230 b"))
	checkReply(t, gathered(s, 530, "a"), theConf(), nil, "530 b", of(atNeedUser), nil, said("530-a", "530 b"), shut(2))
	checkReply(t, gathered(s, 150, "a"), theConf(), nil, "150 b", s, nil)
}

// P20.3: a login whose server is left may begin anew, as another one.
func TestReplyAndAgain(t *testing.T) {
	s, _, _ := heard(of(atPassSent), theConf(), nil, "530 no")
	s, _, out := line(s, theConf(), nil, "USER you@ftp.b")
	checkOuts(t, "again", out, dial(1, api.End{Host: other, Port: 2121}))
	s, out = Dialed(s, 6)
	checkOuts(t, "again", out)
	for _, x := range []struct{ text, want string }{{"220 b", "6<USER you\r\n"}, {"230 in", "1<230 in\r\n"}} {
		var h []api.Hole
		s, h, out = heard(s, theConf(), nil, x.text)
		checkHoles(t, "again", h, nil)
		checkOuts(t, "again", out, x.want)
	}
	checkSess(t, "again", s, changed(of(atIn), func(s *api.Sess) { s.Up, s.L.Tenant, s.L.User, s.Cwd = 6, 1, "you", "/" }))
}

// P20.3: where nothing is under way a reply comes to nothing, but for 421.
func TestReplyToNothing(t *testing.T) {
	h := []api.Hole{pin, theirs}
	count := 0
	for _, o := range []api.Order{idle, {From: true, Start: 9}} {
		for code := 100; code <= 599; code++ {
			text := fmt.Sprintf("%d x", code)
			s := going(o, "/h")
			if code == 421 {
				checkReply(t, s, theConf(), h, text, over(s), []api.Hole{theirs}, said("421 x"), shut(1), shut(2))
				checkReply(t, gathered(s, 421, "w"), theConf(), h, text, over(s), []api.Hole{theirs}, said("421-w", "421 x"), shut(1), shut(2))
				continue
			}
			checkReply(t, s, theConf(), h, text, s, h)
			checkReply(t, gathered(s, code, "w"), theConf(), h, text, s, h)
			count++
		}
	}
	if count != 998 {
		t.Errorf("%d came to nothing, want 998", count)
	}
	// An end that a server tells unasked is no pinhole.
	checkReply(t, of(atIn), theConf(), nil, "227 (10,1,0,1,8,0)", of(atIn), nil)
	checkReply(t, of(atIn), theConf(), nil, "229 (|||2048|)", of(atIn), nil)
}

// P20.3: each verb that may be under way, by each code: the reply is said, and what is under way is what order tells; a directory that was changed, and ends that were told, are asked of below.
func TestReplyToCommands(t *testing.T) {
	h := []api.Hole{theirs}
	for _, v := range verb.All() {
		if v.Kind == api.Dir || v.Kind == api.Listen {
			continue
		}
		for code := 100; code <= 599; code++ {
			text := fmt.Sprintf("%d x", code)
			for _, pend := range []int{1, 2} {
				s := going(api.Order{Verb: v.Name, Pend: pend, Start: 9}, "/h")
				want := s
				switch {
				case code < 200:
				case pend == 2:
					want.O.Pend = 1
				default:
					want.O = api.Order{From: v.Name == "RNFR" && code == 350, Start: 9}
					if v.Kind == api.Carry || v.Name == "REST" && code != 350 {
						want.O.Start = -1
					}
				}
				checkReply(t, s, theConf(), h, text, want, h, said(text))
			}
		}
	}
}

// P20.3: a directory is changed where that ended by a code from 200 to 299, and by the last reply alone.
func TestReplyToDir(t *testing.T) {
	h := []api.Hole{pin}
	moved := 0
	for _, name := range []string{"CWD", "CDUP"} {
		for code := 100; code <= 599; code++ {
			text := fmt.Sprintf("%d x", code)
			for _, pend := range []int{1, 2, 8} {
				s := going(busy(name, pend), "/b/c")
				want := s
				if code >= 200 {
					want.O.Pend--
				}
				if code >= 200 && pend == 1 {
					want.O = idle
					if code <= 299 {
						want.Cwd = "/b/c"
						moved++
					}
				}
				checkReply(t, s, theConf(), h, text, want, h, said(text))
			}
		}
	}
	if moved != 200 {
		t.Errorf("%d were moved, want 200", moved)
	}
	// By hand: at the edges, and behind an ABOR.
	s := going(busy("CWD", 1), "/pub")
	for text, cwd := range map[string]string{"200 x": "/pub", "250 x": "/pub", "299 x": "/pub", "300 x": "/a", "350 x": "/a", "500 x": "/a", "550 x": "/a", "421 x": "/a"} {
		want := going(idle, "/pub")
		want.Cwd = cwd
		checkReply(t, s, theConf(), nil, text, want, nil, said(text))
		two := going(busy("CWD", 2), "/pub")
		checkReply(t, two, theConf(), nil, text, s, nil, said(text))
	}
	want := going(busy("CWD", 1), "/pub")
	checkReply(t, s, theConf(), nil, "199 x", want, nil, said("199 x"))
	// A Hold is no place where no directory was asked for.
	checkReply(t, going(busy("NOOP", 1), "/pub"), theConf(), nil, "250 x", going(idle, "/pub"), nil, said("250 x"))
}

// P20.3: an end that the server tells of its own: by hand, with what the client is told in its place.
func TestReplyOfEnd(t *testing.T) {
	hole := api.Hole{Port: 2000, Sess: 1, Tenant: 0, Peer: api.Host{10, 0, 0, 1}, To: api.End{Host: api.Host{10, 1, 0, 1}, Port: 2048}, Dead: 15}
	for text, verb := range map[string]string{
		"227 ok (10,1,0,1,8,0)": "PASV", "227 (10,1,0,1,8,0).": "PASV", "227 Entering Passive Mode (10,1,0,1,8,0).": "PASV",
		"229 ok (|||2048|)": "EPSV", "229 (!!!2048!) x": "EPSV",
	} {
		tells := map[string]string{"PASV": "227 Entering Passive Mode (10,0,0,9,7,208).", "EPSV": "229 Entering Extended Passive Mode (|||2000|)."}[verb]
		checkReply(t, within(busy(verb, 1)), theConf(), nil, text, of(atIn), []api.Hole{hole}, said(tells))
		// Where an ABOR came behind it, too.
		checkReply(t, within(busy(verb, 2)), theConf(), nil, text, within(busy(verb, 1)), []api.Hole{hole}, said(tells))
		second := hole
		second.Port = 2001
		tells = map[string]string{"PASV": "227 Entering Passive Mode (10,0,0,9,7,209).", "EPSV": "229 Entering Extended Passive Mode (|||2001|)."}[verb]
		checkReply(t, within(busy(verb, 1)), theConf(), []api.Hole{pin}, text, of(atIn), []api.Hole{pin, second}, said(tells))
	}
	s := within(busy("EPSV", 1))
	s.ID, s.Peer, s.L.Tenant = 4, api.Host{10, 0, 0, 4}, 1
	want := s
	want.O = idle
	checkReply(t, s, theConf(), []api.Hole{theirs}, "229 (|||65535|)", want,
		[]api.Hole{theirs, {Port: 3000, Sess: 4, Tenant: 1, Peer: api.Host{10, 0, 0, 4}, To: api.End{Host: api.Host{10, 2, 0, 1}, Port: 65535}, Dead: 15}}, "4<229 Entering Extended Passive Mode (|||3000|).\r\n")
}

// P20.3: an end that is not the server's own, or none.
func TestReplyOfBadEnd(t *testing.T) {
	h := []api.Hole{pin}
	for verb, texts := range map[string][]string{
		"PASV": {"227 ok (10,9,0,1,8,0)", "227 (10,0,0,1,8,0)", "227 (10,2,0,1,8,0)", "227 (10,1,0,1,3,255)", "227 (10,1,0,1,0,0)", "227 x", "227", "227 10,1,0,1,8,0", "227 (10,1,0,1,8)", "227 (|||2048|)", "229 (|||2048|)", "229 (10,1,0,1,8,0)", "229 x"},
		"EPSV": {"229 (|||1023|)", "229 (|||0|)", "229 (|||65536|)", "229 x", "229", "229 |||2048|", "229 (10,1,0,1,8,0)", "227 (10,1,0,1,8,0)", "227 (|||2048|)", "227 x"},
	} {
		for _, text := range texts {
			for _, h := range [][]api.Hole{nil, h, {pin, theirs}} {
				checkReply(t, within(busy(verb, 1)), theConf(), h, text, of(atIn), h, said("425 No address."))
				checkReply(t, within(busy(verb, 2)), theConf(), h, text, within(busy(verb, 1)), h, said("425 No address."))
			}
		}
		// Of several lines none is read.
		for code, text := range map[int]string{227: "227 (10,1,0,1,8,0)", 229: "229 (|||2048|)"} {
			checkReply(t, gathered(within(busy(verb, 1)), code, "x"), theConf(), h, text, of(atIn), h, said("425 No address."))
		}
	}
}

// P20.3: by other codes than 227 and 229 a reply to PASV or EPSV is just said.
func TestReplyToListenByCodes(t *testing.T) {
	h := []api.Hole{theirs}
	count := 0
	for _, verb := range []string{"PASV", "EPSV"} {
		for code := 100; code <= 599; code++ {
			if code == 227 || code == 229 {
				continue
			}
			for _, end := range []string{"(10,1,0,1,8,0)", "(|||2048|)"} {
				text := fmt.Sprintf("%d %s", code, end)
				want := of(atIn)
				if code < 200 {
					want.O = busy(verb, 1)
				}
				checkReply(t, within(busy(verb, 1)), theConf(), h, text, want, h, said(text))
				count++
			}
		}
	}
	if count != 1992 {
		t.Errorf("%d were said, want 1992", count)
	}
}

// P20.3: of another verb 227 and 229 are no ends.
func TestReplyOfEndToOthers(t *testing.T) {
	for _, verb := range []string{"LIST", "PORT", "EPRT", "NOOP", "HELP", "STAT"} {
		for _, text := range []string{"227 (10,1,0,1,8,0)", "229 (|||2048|)", "227 x"} {
			checkReply(t, within(busy(verb, 1)), theConf(), nil, text, of(atIn), nil, said(text))
		}
	}
}

// P20.3: with no port free, or as many pinholes as may be, the client is told just that.
func TestReplyWithoutPort(t *testing.T) {
	third := pin
	third.Port = 2002
	apart := theirs
	apart.Tenant = 1
	for verb, text := range map[string]string{"PASV": "227 (10,1,0,1,8,0)", "EPSV": "229 (|||2048|)"} {
		for _, h := range [][]api.Hole{{pin, theirs}, {third, theirs}, {pin, apart, third}, {{Port: 1}, {Port: 2}}} {
			for draw := -3; draw <= 3; draw++ {
				u, l, out := Reply(within(busy(verb, 1)), theConf(), h, api.Line{Text: text}, 5, draw, false)
				checkSess(t, text, u, of(atIn))
				checkHoles(t, text, l, h)
				checkOuts(t, text, out, said("425 No port."))
			}
		}
	}
}

// P20.3: which port it is hangs on the draw, how long it lives on the time, and neither on whether as many as may be are in.
func TestReplyByDrawAndTime(t *testing.T) {
	for _, x := range []struct{ draw, now, life, port, dead int }{
		{0, 0, 1, 2000, 1}, {1, 5, 10, 2001, 15}, {2, 5, 10, 2002, 15}, {3, 5, 10, 2000, 15}, {-1, 5, 10, 2002, 15}, {math.MaxInt, -5, 10, 2001, 10}, {math.MinInt, math.MinInt, 7, 2001, 7},
		{0, maxTaken - 10, 10, 2000, maxTaken}, {0, maxTaken - 11, 10, 2000, maxTaken - 1}, {0, math.MaxInt, 10, 2000, maxTaken}, {0, 5, maxTaken, 2000, maxTaken},
	} {
		c := theConf()
		c.Life = x.life
		for i, text := range []string{"227 (10,1,0,1,8,0)", "229 (|||2048|)"} {
			tells := []string{fmt.Sprintf("227 Entering Passive Mode (10,0,0,9,%d,%d).", x.port/256, x.port%256), fmt.Sprintf("229 Entering Extended Passive Mode (|||%d|).", x.port)}[i]
			for _, full := range []bool{false, true} {
				u, h, out := Reply(within(busy([]string{"PASV", "EPSV"}[i], 1)), c, nil, api.Line{Text: text}, x.now, x.draw, full)
				checkSess(t, text, u, of(atIn))
				checkHoles(t, text, h, []api.Hole{{Port: x.port, Sess: 1, Peer: me, To: api.End{Host: server, Port: 2048}, Dead: x.dead}})
				checkOuts(t, text, out, said(tells))
			}
		}
	}
}

// P20.3: ports all over that a server may tell.
func TestReplyOfPorts(t *testing.T) {
	ports, fine := somePorts()
	for _, port := range ports {
		for i, text := range []string{fmt.Sprintf("227 (10,1,0,1,%d,%d)", port/256, port%256), fmt.Sprintf("229 (|||%d|)", port)} {
			_, h, out := heard(within(busy([]string{"PASV", "EPSV"}[i], 1)), theConf(), nil, text)
			if port < 1024 {
				checkHoles(t, text, h, nil)
				checkOuts(t, text, out, said("425 No address."))
				continue
			}
			fine--
			checkHoles(t, text, h, []api.Hole{{Port: 2000, Sess: 1, Peer: me, To: api.End{Host: server, Port: port}, Dead: 15}})
			checkOuts(t, text, out, said([]string{"227 Entering Passive Mode (10,0,0,9,7,208).", "229 Entering Extended Passive Mode (|||2000|)."}[i]))
		}
	}
	if _, half := somePorts(); fine != -half {
		t.Errorf("%d ports were not told, or too many", fine+half)
	}
}

// P20.3: neither rules, nor how many may be in, matter to one that is in.
func TestReplyWithoutRules(t *testing.T) {
	for _, text := range slices.DeleteFunc(slices.Clone(replies), func(s string) bool { return strings.HasPrefix(s, "220-") }) {
		for _, o := range []api.Order{busy("LIST", 1), busy("PASV", 1), idle} {
			u, h, out := heard(within(o), theConf(), nil, text)
			for _, c := range []api.Conf{theConf(), withRules(), withRules(api.Rule{Path: "/"})} {
				for _, full := range []bool{false, true} {
					v, l, got := Reply(within(o), c, nil, api.Line{Text: text}, 5, 0, full)
					checkSess(t, text, v, u)
					checkHoles(t, text, l, h)
					checkOuts(t, text, got, texts(out)...)
				}
			}
		}
	}
}
