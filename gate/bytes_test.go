package gate

import (
	"fmt"
	"math"
	"strings"
	"testing"

	"wharfinger/api"
)

// bytesOn are bytes that come on a connection, and drawn are such with a draw.
func bytesOn(conn int, s string) api.Ev { return api.Ev{Kind: aBytes, Conn: conn, B: []byte(s)} }

func drawn(conn int, s string, draw int) api.Ev {
	return api.Ev{Kind: aBytes, Conn: conn, B: []byte(s), Draw: draw}
}

// at8 makes it later than when something came last.
func at8(g *api.Gate) { g.Now, g.H = 8, without(g.H, 1) }

// touched is the first session with something that came at 8, and with how.
func touched(how func(*api.Sess)) func(*api.Gate) {
	return func(g *api.Gate) {
		g.S[0].Last = 8
		how(&g.S[0])
	}
}

func nothing(*api.Sess) {}

// asking is the first session with a command under way.
func asking(verb string) func(*api.Sess) { return func(s *api.Sess) { s.O = busy(verb) } }

// checkTold holds bytes that the first session's client tells at 8 to what it is then.
func checkTold(t *testing.T, what, told string, how func(*api.Sess), out ...string) {
	t.Helper()
	checkDo(t, what, changed(at8), bytesOn(1, told), changed(at8, touched(how)), out...)
}

// P22.2, Bytes of an ID: lines, whole and in parts, one and several.
func TestClientsLines(t *testing.T) {
	checkTold(t, "nothing", "", nothing)
	checkTold(t, "a line", "NOOP\r\n", asking("NOOP"), said(2, "NOOP"))
	checkTold(t, "an empty line", "\r\n", nothing, said(1, "500 What?"))
	checkTold(t, "one that is none", "SITE x\r\n", nothing, said(1, "502 Not here."))
	checkTold(t, "two", "NOOP\r\nPWD\r\n", asking("NOOP"), said(2, "NOOP"), said(1, "503 Not now."))
	checkTold(t, "three, and a part", "x\r\nPWD\r\nsite\r\nNO", func(s *api.Sess) { s.O, s.C.B = busy("PWD"), []byte("NO") }, said(1, "500 What?"), said(2, "PWD"), said(1, "502 Not here."))
	checkTold(t, "a part", "NO", func(s *api.Sess) { s.C.B = []byte("NO") })
	checkTold(t, "a 13", "NOOP\r", func(s *api.Sess) { s.C = api.Framer{B: []byte("NOOP"), Cr: true} })
	checkTold(t, "a 10 alone", "NOOP\n", func(s *api.Sess) { s.C.B = []byte("NOOP\n") })
	checkTold(t, "a 10 alone, and more", "NOOP\nPWD\r\n", nothing, said(1, "500 What?"))
	g := changed(at8)
	for i, part := range []string{"N", "", "OO", "P\r"} {
		next, out, no := Do(g, bytesOn(1, part))
		if no != 0 || len(out) != 0 || next.S[0].O != idle {
			t.Errorf("part %d: %d, %q, %s", i, no, texts(out), show(next))
		}
		g = next
	}
	checkDo(t, "the last part", g, bytesOn(1, "\nPW"), changed(at8, touched(func(s *api.Sess) { s.O, s.C.B = busy("NOOP"), []byte("PW") })), said(2, "NOOP"))
}

// P22.2, Bytes of an ID: a 10 alone, where the conf tells so.
func TestClientsLf(t *testing.T) {
	lf := func(g *api.Gate) { g.C.Lf = true }
	checkDo(t, "a 10 alone", changed(at8, lf), bytesOn(1, "NOOP\n"), changed(at8, lf, touched(asking("NOOP"))), said(2, "NOOP"))
	checkDo(t, "both", changed(at8, lf), bytesOn(1, "NOOP\r\nx\n\n"), changed(at8, lf, touched(asking("NOOP"))), said(2, "NOOP"), said(1, "500 What?"), said(1, "500 What?"))
}

// P22.2, Bytes of an ID: a line of 512 bytes is one, a longer one is not, and the next one is whole.
func TestClientsLongLines(t *testing.T) {
	long := strings.Repeat("x", 512)
	checkTold(t, "as long as may be", long+"\r\n", nothing, said(1, "500 What?"))
	checkTold(t, "one more", long+"x\r\n", nothing, said(1, "500 Too long."))
	checkTold(t, "much more, and another one", long+long+"\r\nNOOP\r\n", asking("NOOP"), said(1, "500 Too long."), said(2, "NOOP"))
	checkTold(t, "its beginning", long, func(s *api.Sess) { s.C.B = []byte(long) })
	checkTold(t, "one more of its beginning", long+"x", func(s *api.Sess) { s.C.Skip = true })
	wide := "SIZE " + strings.Repeat("/", 507)
	checkTold(t, "a command as long as may be", wide+"\r\n", asking("SIZE"), said(2, "SIZE /"))
	checkTold(t, "a command one longer", wide+"/\r\n", nothing, said(1, "500 Too long."))
}

// P22.2, Bytes of an ID: what is no text is left out, and where it stopped stays.
func TestClientsTelnet(t *testing.T) {
	checkTold(t, "a wish", "NO\xff\xfd\x01OP\r\n", asking("NOOP"), said(2, "NOOP"))
	checkTold(t, "what is to be dropped", "NO\xff\xf2OP\xff\xf4\r\n", asking("NOOP"), said(2, "NOOP"))
	checkTold(t, "a 255 as text", "NO\xff\xffOP\r\n", nothing, said(1, "500 What?"))
	checkTold(t, "a 10 that is wished", "NOOP\r\xff\xfb\n\n", asking("NOOP"), said(2, "NOOP"))
	tel := func(n int, b string) func(*api.Sess) {
		return func(s *api.Sess) { s.Tel, s.C.B = n, []byte(b) }
	}
	checkTold(t, "a call", "NO\xff", tel(1, "NO"))
	checkTold(t, "half a wish", "NO\xff\xfb", tel(2, "NO"))
	for n, rest := range map[int]string{0: "OP\r\n", 1: "\xfd\x01OP\r\n", 2: "\x01OP\r\n"} {
		g := changed(at8, touched(tel(n, "NO")))
		checkDo(t, fmt.Sprintf("from %d on", n), g, bytesOn(1, rest), changed(at8, touched(asking("NOOP"))), said(2, "NOOP"))
	}
	long := strings.Repeat("x\xff\xf1", 512)
	checkTold(t, "only text is too long", long+"\r\n", nothing, said(1, "500 What?"))
}

// P22.2, Bytes of an ID: what one line comes to is what the next one is told by: sessions, pinholes, and the same draw for all.
func TestClientsLinesFollow(t *testing.T) {
	// The second port of three, by the draw 4; then ABOR takes all that is the session's.
	g := changed(at8, func(g *api.Gate) { g.H = g.H[1:] })
	point := "PORT 10,0,0,1,8,0\r\n"
	granted := api.Hole{Port: 2001, Sess: 1, Peer: serverA, To: api.End{Host: me, Port: 2048}, Dead: 18}
	want := norm(g)
	touched(asking("PORT"))(&want)
	want.H = append(want.H, granted)
	checkDo(t, "PORT", g, drawn(1, point, 4), want, said(2, "PORT 10,0,0,9,7,209"))
	want.S[0].O.Pend, want.H = 2, want.H[:1]
	checkDo(t, "PORT and ABOR", g, drawn(1, point+"ABOR\r\n", 4), want, said(2, "PORT 10,0,0,9,7,209"), said(2, "ABOR"))
	tellsPort := func(draw int, port string) {
		t.Helper()
		_, out, _ := Do(g, drawn(1, point, draw))
		checkOuts(t, fmt.Sprintf("draw %d", draw), out, said(2, "PORT 10,0,0,9,"+port))
	}
	tellsPort(0, "7,208")
	tellsPort(-1, "7,210")
	tellsPort(5, "7,210")
	tellsPort(math.MaxInt, "7,209")
	// Of a client that enters, in one go.
	first := changed(func(g *api.Gate) { g.S[2] = of(atNeedUser, 5, -1, -1) })
	want = theGate()
	checkDo(t, "USER and LIST", first, bytesOn(5, "LIST\r\nUSER me@ftp.a\r\nLIST\r\nUSER me@ftp.a\r\n"), want, said(5, "530 Log in first."), dial(5, api.End{Host: serverA, Port: 21}), said(5, "530 Log in first."), said(5, "503 Not now."))
	checkDo(t, "USER of the other one", first, bytesOn(5, "USER you@ftp.b\r\n"), changed(func(g *api.Gate) { g.S[2].L = api.Login{Phase: atDialing, Tenant: 1, User: "you"} }), dial(5, api.End{Host: serverB, Port: 2121}))
}

// P22.2, Bytes of an ID: behind a line that ends the session nothing comes to anything, and all that is the session's goes.
func TestClientsLastLine(t *testing.T) {
	quit := append(list(said(1, "221 Goodbye."), shut(1), shut(2)), shuts(10, 11, 12)...)
	for _, s := range []string{"QUIT\r\n", "quit\r\nNOOP\r\n", "QUIT\r\nQUIT\r\nx", "QUIT\r\n\r\n\r\nUSER me@ftp.a\r\n"} {
		checkDo(t, s, theGate(), bytesOn(1, s), changed(noFirst), quit...)
	}
	checkDo(t, "behind another one", theGate(), bytesOn(1, "NOOP\r\nQUIT\r\nNOOP\r\n"), changed(noFirst), append(list(said(2, "NOOP")), quit...)...)
	checkDo(t, "one that is asked for", theGate(), bytesOn(5, "QUIT\r\n"), changed(func(g *api.Gate) { g.S = without(g.S, 2) }), said(5, "221 Goodbye."), shut(5))
	checkDo(t, "the last one", theGate(), bytesOn(6, "QUIT\r\n"), changed(func(g *api.Gate) { g.S = without(g.S, 3) }), said(6, "221 Goodbye."), shut(6), shut(7))
}

// P22.2, Bytes of an ID: Last is told by what its client tells, and of that session alone.
func TestLast(t *testing.T) {
	for i, id := range []int{1, 3, 5, 6} {
		for _, s := range []string{"", "x", "x\r\n", "\xff"} {
			g, _, no := Do(changed(at8), bytesOn(id, s))
			for j, x := range g.S {
				if want := map[bool]int{true: 8, false: 5}[i == j]; x.Last != want {
					t.Errorf("%q of %d: Last of %d is %d (error %d)", s, id, x.ID, x.Last, no)
				}
			}
		}
	}
	for _, conn := range []int{2, 4, 7, 10, 11, 12, 13} {
		g, _, no := Do(changed(at8), bytesOn(conn, "1"))
		for _, x := range g.S {
			if x.Last != 5 {
				t.Errorf("of %d: Last of %d is %d (error %d)", conn, x.ID, x.Last, no)
			}
		}
	}
	g, _, _ := Do(changed(came(maxTaken, 5, 5, 5, 5)), bytesOn(3, "x"))
	if len(g.S) != 4 || g.S[1].Last != maxTaken {
		t.Errorf("at the last time %s", show(g))
	}
	g, _, _ = Do(changed(came(3, 5, 5, 5, 5)), bytesOn(3, "x"))
	if len(g.S) != 4 || g.S[1].Last != 3 {
		t.Errorf("ahead of what came last %s", show(g))
	}
}

// answering is the first session while its server is to answer a command.
func answering(verb string) func(*api.Gate) {
	return func(g *api.Gate) { g.S[0].O = busy(verb) }
}

func first(how func(*api.Sess)) func(*api.Gate) { return func(g *api.Gate) { how(&g.S[0]) } }

// P22.2, Bytes of an Up: replies, whole and in parts, by a 10 alone too, and several.
func TestServersLines(t *testing.T) {
	noop := changed(answering("NOOP"))
	checkDo(t, "nothing", noop, bytesOn(2, ""), noop)
	checkDo(t, "a reply", noop, bytesOn(2, "200 ok\r\n"), theGate(), said(1, "200 ok"))
	checkDo(t, "one by a 10 alone", noop, bytesOn(2, "200 ok\n"), theGate(), said(1, "200 ok"))
	checkDo(t, "one that tells that more comes", noop, bytesOn(2, "150 on\r\n"), noop, said(1, "150 on"))
	checkDo(t, "both", noop, bytesOn(2, "150 on\r\n200 ok\r\n"), theGate(), said(1, "150 on"), said(1, "200 ok"))
	checkDo(t, "one more", noop, bytesOn(2, "200 ok\r\n200 more\r\n"), theGate(), said(1, "200 ok"))
	checkDo(t, "a part", noop, bytesOn(2, "200 o"), changed(answering("NOOP"), first(func(s *api.Sess) { s.S.B = []byte("200 o") })))
	checkDo(t, "a 13", noop, bytesOn(2, "200\r"), changed(answering("NOOP"), first(func(s *api.Sess) { s.S = api.Framer{B: []byte("200"), Cr: true} })))
	open := changed(answering("NOOP"), first(func(s *api.Sess) { s.G = api.Gather{Code: 200, Lines: []string{"a", "b"}, Open: true} }))
	checkDo(t, "its first lines", noop, bytesOn(2, "200-a\r\nb\r\n"), open)
	checkDo(t, "its last line, and a part", open, bytesOn(2, "200 c\r\n2"), changed(first(func(s *api.Sess) { s.S.B = []byte("2") })), sent(1, "200-a\r\nb\r\n200 c\r\n"))
	g := noop
	for i, part := range []string{"2", "00 ", "", "ok", "\r"} {
		next, out, no := Do(g, bytesOn(2, part))
		if no != 0 || len(out) != 0 {
			t.Errorf("part %d: %d, %q", i, no, texts(out))
		}
		g = next
	}
	checkDo(t, "the last part", g, bytesOn(2, "\n"), theGate(), said(1, "200 ok"))
	checkDo(t, "another session's", changed(func(g *api.Gate) { g.S[1].O = busy("NOOP") }), bytesOn(4, "200 ok\r\n"), theGate(), said(3, "200 ok"))
	checkDo(t, "a directory", changed(first(func(s *api.Sess) { s.O, s.Hold = busy("CWD"), "/a" })), bytesOn(2, "250 ok\r\n"), changed(first(func(s *api.Sess) { s.Cwd, s.Hold = "/a", "/a" })), said(1, "250 ok"))
}

// P22.2, Bytes of an Up: pinholes, at Now and with the draw.
func TestServersEnds(t *testing.T) {
	g := changed(answering("PASV"), func(g *api.Gate) { g.H = g.H[2:] })
	for draw, want := range map[int]string{0: "7,208", 1: "7,209", 2: "7,210", 3: "7,208", -1: "7,210"} {
		next, out, no := Do(g, drawn(2, "227 ok (10,1,0,1,8,0)\r\n", draw))
		checkOuts(t, fmt.Sprintf("draw %d, error %d", draw, no), out, said(1, "227 Entering Passive Mode (10,0,0,9,"+want+")."))
		granted := api.Hole{Port: 2000 + (draw+3)%3, Sess: 1, Peer: me, To: api.End{Host: serverA, Port: 2048}, Dead: 15}
		if len(next.H) != 2 || next.H[0] != another || next.H[1] != granted {
			t.Errorf("draw %d: %s", draw, show(next))
		}
	}
	late := changed(answering("EPSV"), func(g *api.Gate) { g.Now, g.H = maxTaken-3, nil })
	next, out, _ := Do(late, bytesOn(2, "229 (|||7777|)\r\n"))
	checkOuts(t, "late", out, said(1, "229 Entering Extended Passive Mode (|||2000|)."))
	if len(next.H) != 1 || next.H[0].Dead != maxTaken || next.H[0].To.Port != 7777 || !May(next) {
		t.Errorf("late: %s", show(next))
	}
}

// P22.2, Bytes of an Up: a server that tells none of a reply, or leaves, ends the session, and what comes behind is nothing.
func TestServersLastLine(t *testing.T) {
	gone := func(line string) []string {
		return append(list(said(1, line), shut(1), shut(2)), shuts(10, 11, 12)...)
	}
	long := strings.Repeat("x", 508)
	for _, s := range []string{"x\r\n", "\r\n", "NOOP\r\n200 ok\r\n", "200 \xff\xf1ok\r\n", "200 ok\r\r\n", "200 " + long + "x\r\n", "200 " + long + "\r\n200 ok\r\n", "200 a\x00\r\n"} {
		checkDo(t, s, changed(answering("NOOP")), bytesOn(2, s), changed(noFirst), gone("421 Bad server.")...)
	}
	fits := strings.Repeat("x", 500)
	checkDo(t, "as long as may be", changed(answering("NOOP")), bytesOn(2, "200 "+fits+"\r\n"), theGate(), said(1, "200 "+fits))
	checkDo(t, "421", theGate(), bytesOn(2, "421 off\r\n421 more\r\n"), changed(noFirst), gone("421 off")...)
	checkDo(t, "one behind another one", changed(answering("NOOP")), bytesOn(2, "200 ok\r\n421 off\r\nx"), changed(noFirst), append(list(said(1, "200 ok")), gone("421 off")...)...)
	checkDo(t, "of the last one", theGate(), bytesOn(7, "x\r\n"), changed(func(g *api.Gate) { g.S = without(g.S, 3) }), said(6, "421 Bad server."), shut(6), shut(7))
}

// P22.2, Bytes of an Up: a login, in one go and beyond; the server that is left is left, and what it tells no more is nobody's.
func TestServersLogin(t *testing.T) {
	phase := func(n int) func(*api.Gate) { return func(g *api.Gate) { g.S[3].L.Phase = n } }
	checkDo(t, "it greets", theGate(), bytesOn(7, "220-hi\r\n220 there\r\n"), changed(phase(atUserSent)), said(7, "USER me"))
	checkDo(t, "it greets, and asks", theGate(), bytesOn(7, "220 hi\r\n331 so?\r\n"), changed(phase(atNeedPass)), said(7, "USER me"), said(6, "331 so?"))
	left := func(rest string) api.Gate {
		return changed(func(g *api.Gate) {
			g.S[3] = of(atNeedUser, 6, -1, -1)
			g.S[3].S.B = []byte(rest)
		})
	}
	checkDo(t, "it wants none", theGate(), bytesOn(7, "530 no\r\n"), left(""), said(6, "530 no"), shut(7))
	checkDo(t, "it wants none, and tells more", theGate(), bytesOn(7, "530 no\r\n220 hi\r\nx\r\n421 off\r\n53"), left("53"), said(6, "530 no"), shut(7))
	checkDo(t, "it greets, and wants none", theGate(), bytesOn(7, "220 hi\r\n530 no\r\n230 in\r\n"), left(""), said(7, "USER me"), said(6, "530 no"), shut(7))
	checkNo(t, "it is left", left(""), bytesOn(7, "220 hi\r\n"), api.ErrNone)
}

// entering is a gateway of which the last session is all but in, of a tenant, and of how many that are in of both.
func entering(tenant int, in ...int) api.Gate {
	return changed(bare, func(g *api.Gate) {
		g.C.Tenants[0].Sessions, g.C.Tenants[1].Sessions = 2, 1
		g.S = nil
		for i, n := range in {
			for j := range n {
				g.S = append(g.S, of(atIn, 100+10*i+j, 200+10*i+j, i))
			}
		}
		g.S = append(g.S, of(atDialing, 5, -1, tenant), of(atPassSent, 6, 7, tenant))
	})
}

// P22.2, Bytes of an Up: one more is in as long as fewer of its tenant are than may be, whoever else is.
func TestServersFull(t *testing.T) {
	for _, x := range []struct {
		tenant int
		in     []int
		full   bool
	}{
		{0, []int{0, 0}, false}, {0, []int{1, 0}, false}, {0, []int{1, 1}, false}, {0, []int{0, 1}, false}, {0, []int{2, 0}, true}, {0, []int{2, 1}, true},
		{1, []int{0, 0}, false}, {1, []int{1, 0}, false}, {1, []int{2, 0}, false}, {1, []int{0, 1}, true}, {1, []int{1, 1}, true}, {1, []int{2, 1}, true},
	} {
		g := entering(x.tenant, x.in...)
		last := len(g.S) - 1
		want := norm(g)
		if x.full {
			want.S = want.S[:last]
			for _, s := range []string{"230 in\r\n", "230 in\r\n230 in\r\n", "120 wait\r\n232-a\r\n232 b\r\n"} {
				checkDo(t, fmt.Sprintf("%q: %v", s, x), g, bytesOn(7, s), want, said(6, "421 Too many."), shut(6), shut(7))
			}
			continue
		}
		want.S[last] = of(atIn, 6, 7, x.tenant)
		checkDo(t, fmt.Sprint(x), g, bytesOn(7, "230 in\r\n"), want, said(6, "230 in"))
		checkDo(t, fmt.Sprint(x, " twice"), g, bytesOn(7, "230 in\r\n230 in\r\n232 in\r\n"), want, said(6, "230 in"))
	}
	// One that is in needs no room.
	g := changed(func(g *api.Gate) { g.S[1].O = busy("NOOP") })
	checkDo(t, "of one that is in", g, bytesOn(4, "230 in\r\n"), theGate(), said(3, "230 in"))
	// Nor does one that is not let in.
	full := entering(1, 0, 1)
	want := norm(full)
	want.S[2] = of(atNeedUser, 6, -1, -1)
	checkDo(t, "of one that is not let in", full, bytesOn(7, "530 no\r\n"), want, said(6, "530 no"), shut(7))
}

// used tells how many bytes a session, and its tenant, carried.
func used(sess, tenant, n, all int) func(*api.Gate) {
	return func(g *api.Gate) { g.S[sess].Used, g.All[tenant] = n, all }
}

// waits tells what waits at a link.
func waits(at int, l ...string) func(*api.Gate) {
	return func(g *api.Gate) {
		g.X[at].Wait = nil
		for _, s := range l {
			g.X[at].Wait = append(g.X[at].Wait, []byte(s))
		}
	}
}

// unlinked is without a link.
func unlinked(at int) func(*api.Gate) { return func(g *api.Gate) { g.X = without(g.X, at) } }

// P22.2, Bytes of a link: from one to the other, or to wait; counted for its session, and its tenant.
func TestLinksBytes(t *testing.T) {
	checkDo(t, "from A", theGate(), bytesOn(10, "abc"), changed(used(0, 0, 7, 7)), sent(11, "abc"))
	checkDo(t, "from B", theGate(), bytesOn(11, "abcd"), changed(used(0, 0, 8, 8)), sent(10, "abcd"))
	checkDo(t, "to wait", theGate(), bytesOn(12, "abc"), changed(used(0, 0, 7, 7), waits(2, "x", "yz", "abc")))
	checkDo(t, "to wait first", theGate(), bytesOn(13, "abc"), changed(used(1, 1, 9, 9), waits(1, "abc")))
	checkDo(t, "to wait last", changed(waits(1, "a", "b", "c")), bytesOn(13, "d"), changed(used(1, 1, 7, 7), waits(1, "a", "b", "c", "d")))
	for _, conn := range []int{10, 11, 12, 13} {
		checkDo(t, "nothing", theGate(), bytesOn(conn, ""), theGate())
	}
	checkDo(t, "nothing, where there is no room", changed(waits(1, "a", "b", "c", "d")), bytesOn(13, ""), changed(waits(1, "a", "b", "c", "d")))
	checkDo(t, "nothing, where nothing is left", changed(used(0, 0, 12, 20)), bytesOn(10, ""), changed(used(0, 0, 12, 20)))
	all := "\x00\xff\xf2\r\n\n\x80"
	checkDo(t, "bytes of all kinds", theGate(), bytesOn(11, all), changed(used(0, 0, 11, 11)), sent(10, all))
	checkDo(t, "what looks like a line", theGate(), bytesOn(10, "QUIT\r\n"), changed(used(0, 0, 10, 10)), sent(11, "QUIT\r\n"))
	checkDo(t, "drawn", theGate(), api.Ev{Kind: aBytes, Conn: 10, B: []byte("a"), Port: 7, Host: you, Up: true, Draw: 9}, changed(used(0, 0, 5, 5)), sent(11, "a"))
}

// P22.2, Bytes of a link: where four wait there is no room; what would have gone on is counted no less.
func TestLinksWithoutRoom(t *testing.T) {
	four := waits(1, "a", "b", "c", "d")
	checkDo(t, "a fifth one", changed(four), bytesOn(13, "efg"), changed(used(1, 1, 9, 9), unlinked(1)), shut(13))
	checkDo(t, "a fifth one, just fitting", changed(four, used(1, 1, 87, 97)), bytesOn(13, "efg"), changed(used(1, 1, 90, 100), unlinked(1)), shut(13))
	checkDo(t, "a fifth one, cut", changed(four, used(1, 1, 88, 9)), bytesOn(13, "efg"), changed(used(1, 1, 90, 11), unlinked(1)), said(3, "552 Quota."), shut(13))
	checkDo(t, "a fifth one, cut to nothing", changed(four, used(1, 1, 90, 9)), bytesOn(13, "efg"), changed(used(1, 1, 90, 9), unlinked(1)), said(3, "552 Quota."), shut(13))
	joined := func(g *api.Gate) { g.X[1].B = 14 }
	checkDo(t, "where somebody is there is room", changed(joined), bytesOn(13, "efg"), changed(joined, used(1, 1, 9, 9)), sent(14, "efg"))
}

// P22.2, Bytes of a link: no more than a session, and its tenant, may carry; what was cut ends the link.
func TestLinksQuota(t *testing.T) {
	// Each is 12, and Quota 20.
	for i, x := range []struct {
		used, all int
		came      string
		goes      string
		cut       bool
	}{
		{4, 4, "12345678", "12345678", false},
		{4, 4, "123456789", "12345678", true},
		{4, 12, "12345678", "12345678", false},
		{4, 12, "123456789", "12345678", true},
		{4, 13, "1234567", "1234567", false},
		{4, 13, "12345678", "1234567", true},
		{11, 4, "1", "1", false},
		{11, 4, "12", "1", true},
		{12, 4, "1", "", true},
		{13, 4, "1", "", true},
		{maxTaken, 4, "123", "", true},
		{0, 19, "1", "1", false},
		{0, 19, "12", "1", true},
		{0, 20, "1", "", true},
		{0, 21, "12", "", true},
		{0, maxTaken, "1", "", true},
		{12, 20, "1", "", true},
		{0, 0, strings.Repeat("x", 12), strings.Repeat("x", 12), false},
		{0, 0, strings.Repeat("x", 5000), strings.Repeat("x", 12), true},
	} {
		g := changed(used(0, 0, x.used, x.all))
		n := len(x.goes)
		next := changed(used(0, 0, x.used+n, x.all+n))
		for conn, to := range map[int]int{10: 11, 11: 10} {
			var out []string
			if x.goes != "" {
				out = append(out, sent(to, x.goes))
			}
			want := next
			if x.cut {
				out = append(out, said(1, "552 Quota."), shut(10), shut(11))
				want = changed(used(0, 0, x.used+n, x.all+n), unlinked(0))
			}
			checkDo(t, fmt.Sprintf("%d: %d of %d and %d, from %d", i, len(x.came), x.used, x.all, conn), g, bytesOn(conn, x.came), want, out...)
		}
		if x.cut {
			checkDo(t, fmt.Sprintf("%d: of one that waits", i), g, bytesOn(12, x.came), changed(used(0, 0, x.used+n, x.all+n), unlinked(2)), said(1, "552 Quota."), shut(12))
		} else {
			checkDo(t, fmt.Sprintf("%d: of one that waits", i), g, bytesOn(12, x.came), changed(used(0, 0, x.used+n, x.all+n), waits(2, "x", "yz", x.goes)))
		}
	}
	none := func(g *api.Gate) { g.C.Tenants[0].Each = 0 }
	checkDo(t, "of a session that may carry nothing", changed(none), bytesOn(10, "a"), changed(none, unlinked(0)), said(1, "552 Quota."), shut(10), shut(11))
	nobody := func(g *api.Gate) { g.C.Tenants[0].Quota = 0 }
	checkDo(t, "of a tenant that may carry nothing", changed(nobody), bytesOn(11, "a"), changed(nobody, unlinked(0)), said(1, "552 Quota."), shut(10), shut(11))
	most := func(g *api.Gate) { g.C.Tenants[0].Each, g.C.Tenants[0].Quota = maxTaken, maxTaken }
	checkDo(t, "at the most", changed(most, used(0, 0, maxTaken-2, maxTaken-3)), bytesOn(11, "abc"), changed(most, unlinked(0), used(0, 0, maxTaken, maxTaken-1)), sent(10, "ab"), said(1, "552 Quota."), shut(10), shut(11))
	// One session's limit is not another one's, nor is one tenant's.
	checkDo(t, "the other tenant's", changed(used(0, 0, 12, 20)), bytesOn(13, strings.Repeat("y", 84)), changed(used(0, 0, 12, 20), used(1, 1, 90, 90), waits(1, strings.Repeat("y", 84))))
	second := func(g *api.Gate) {
		g.S = append(g.S, of(atIn, 30, 31, 0))
		g.X = append(g.X, api.Link{Sess: 30, A: 32, B: 33})
	}
	checkDo(t, "another one of one tenant", changed(second, used(0, 0, 12, 12)), bytesOn(33, "abcdefghi"), changed(second, used(0, 0, 12, 20), func(g *api.Gate) { g.S[4].Used, g.X = 8, g.X[:3] }), sent(32, "abcdefgh"), said(30, "552 Quota."), shut(32), shut(33))
}

// P22.2, Bytes of nobody: a number below 0, a link's or a session's -1, and one that none has.
func TestBytesOfNobody(t *testing.T) {
	for _, conn := range []int{-1, -2, 0, 8, 9, 14, 77, 1 << 32, 1<<32 + 1, math.MinInt, math.MaxInt} {
		for _, s := range []string{"", "NOOP\r\n", "220 hi\r\n"} {
			checkNo(t, fmt.Sprintf("%q on %d", s, conn), theGate(), bytesOn(conn, s), api.ErrNone)
		}
	}
}
