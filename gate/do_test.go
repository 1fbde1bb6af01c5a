package gate

import (
	"fmt"
	"math"
	"testing"

	"wharfinger/api"
)

// usedBy are the connections that theGate uses, by what they are.
var usedBy = map[string]int{"an ID": 1, "another ID": 5, "an Up": 2, "another Up": 7, "A": 10, "A of one that asked": 12, "B": 11}

// P22.2: a gateway that may not be, or a kind that is none, whatever else the event tells.
func TestDoOfNone(t *testing.T) {
	kinds := []int{anOpen, aBytes, aDialed, aCome, aClosed, aTick}
	for _, x := range mayNotBe {
		for _, kind := range kinds {
			for _, conn := range []int{-1, 1, 2, 10, 77} {
				checkNo(t, fmt.Sprintf("kind %d, %s", kind, x.what), changed(x.how), api.Ev{Kind: kind, Conn: conn, B: []byte("NOOP\r\n")}, api.ErrArg)
			}
		}
	}
	for _, kind := range []int{-1, 6, 7, -2, math.MinInt, math.MaxInt, 1 << 32, -1 << 32, 256} {
		for _, conn := range []int{-1, 1, 77} {
			checkNo(t, fmt.Sprintf("kind %d", kind), theGate(), api.Ev{Kind: kind, Conn: conn}, api.ErrArg)
			checkNo(t, fmt.Sprintf("kind %d of nothing", kind), api.Gate{}, api.Ev{Kind: kind, Conn: conn}, api.ErrArg)
		}
	}
	for _, kind := range kinds {
		checkNo(t, fmt.Sprintf("kind %d of nothing", kind), api.Gate{}, api.Ev{Kind: kind}, api.ErrArg)
	}
}

// The chapter's example: a client comes, and 220 goes out.
func TestExample(t *testing.T) {
	g, err := New(theConf())
	if err != nil {
		t.Fatal(err)
	}
	want := api.Gate{C: theConf(), S: []api.Sess{of(atNeedUser, 1, -1, -1)}, All: []int{0, 0}}
	want.S[0].Last = 0
	checkDo(t, "a client comes", g, api.Ev{Kind: anOpen, Conn: 1, Host: me}, want, "1<220 Ready.\r\n")
}

// P22.2, Open: one more session, behind all others.
func TestOpen(t *testing.T) {
	for _, conn := range []int{20, 0, 3 << 40, math.MaxInt} {
		for _, host := range []api.Host{me, you, {}, {255, 255, 255, 255}} {
			want := changed(roomAhead, func(g *api.Gate) {
				s := of(atNeedUser, conn, -1, -1)
				s.Peer = host
				g.S = append(g.S, s)
			})
			checkDo(t, "Open", changed(roomAhead), api.Ev{Kind: anOpen, Conn: conn, Host: host, Port: 1, Up: true, B: []byte("x"), Draw: 3}, want, said(conn, "220 Ready."))
		}
	}
	late := func(g *api.Gate) { g.Now, g.H = 77, nil }
	want := changed(roomAhead, late, func(g *api.Gate) {
		s := of(atNeedUser, 20, -1, -1)
		s.Last = 77
		g.S = append(g.S, s)
	})
	checkDo(t, "Open, late", changed(roomAhead, late), api.Ev{Kind: anOpen, Conn: 20, Host: me}, want, said(20, "220 Ready."))
}

// P22.2, Open: with as many ahead as may be, one is told so, and none is more. It is told of those ahead alone.
func TestOpenWithoutRoom(t *testing.T) {
	e := api.Ev{Kind: anOpen, Conn: 20, Host: you}
	checkDo(t, "two of two", theGate(), e, theGate(), said(20, "421 Too many."), shut(20))
	one := func(g *api.Gate) { g.C.Pre = 1 }
	checkDo(t, "one of one", changed(roomAhead, one), e, changed(roomAhead, one), said(20, "421 Too many."), shut(20))
	for phase := atNeedUser; phase < atIn; phase++ {
		up := 7
		if phase < atGreet {
			up = -1
		}
		full := changed(one, func(g *api.Gate) { g.S = append(g.S[:2], of(phase, 6, up, 0)) })
		checkDo(t, fmt.Sprintf("one of one, in phase %d", phase), full, e, full, said(20, "421 Too many."), shut(20))
	}
	g := changed(func(g *api.Gate) { g.C.Pre, g.S = 8, g.S[:2] })
	for i := range 8 {
		want := norm(g)
		want.S = append(want.S, of(atNeedUser, 20+i, -1, -1))
		checkDo(t, fmt.Sprintf("%d of eight", i), g, api.Ev{Kind: anOpen, Conn: 20 + i, Host: me}, want, said(20+i, "220 Ready."))
		g = want
	}
	checkDo(t, "the ninth of eight", g, api.Ev{Kind: anOpen, Conn: 30, Host: me}, g, said(30, "421 Too many."), shut(30))
}

// P22.2, Open: a connection that is none, or is used, with room and without.
func TestOpenOfUsed(t *testing.T) {
	for _, g := range []api.Gate{theGate(), changed(roomAhead)} {
		for _, conn := range []int{-1, -2, math.MinInt} {
			checkNo(t, fmt.Sprintf("Open of %d", conn), g, api.Ev{Kind: anOpen, Conn: conn, Host: me}, api.ErrArg)
		}
	}
	for what, conn := range usedBy {
		checkNo(t, "Open of "+what, theGate(), api.Ev{Kind: anOpen, Conn: conn, Host: me}, api.ErrArg)
	}
	for _, conn := range []int{1, 2, 3, 4, 5, 10, 11, 12, 13} {
		checkNo(t, fmt.Sprintf("Open of %d, with room", conn), changed(roomAhead), api.Ev{Kind: anOpen, Conn: conn, Host: me}, api.ErrArg)
	}
}

// dialed is one who asked and is told that somebody is there.
func dialed(conn, port int) api.Ev { return api.Ev{Kind: aDialed, Conn: conn, Port: port, Up: true} }

// P22.2, Dialed: a session whose server was asked.
func TestDialedOfSession(t *testing.T) {
	dirty := func(g *api.Gate) {
		g.S[2].S = api.Framer{B: []byte("ab"), Cr: true}
		g.S[2].C = api.Framer{B: []byte("cd")}
		g.S[2].G = api.Gather{Code: 220, Lines: []string{"x"}, Open: true}
	}
	for _, port := range []int{20, 0, 6666, math.MaxInt} {
		want := changed(func(g *api.Gate) {
			g.S[2] = of(atGreet, 5, port, 0)
			g.S[2].C = api.Framer{B: []byte("cd")}
		})
		checkDo(t, fmt.Sprintf("Dialed of %d", port), changed(dirty), dialed(5, port), want)
	}
	for _, port := range []int{20, 0, -1, -5, 1, 2, 5, 10, 11, math.MinInt} {
		want := changed(dirty, func(g *api.Gate) { g.S[2].L = api.Login{Tenant: -1} })
		checkDo(t, fmt.Sprintf("not there, by %d", port), changed(dirty), api.Ev{Kind: aDialed, Conn: 5, Port: port}, want, said(5, "421 No server."))
	}
}

// P22.2, Dialed: a link that asked, with what waited.
func TestDialedOfLink(t *testing.T) {
	joined := func(at, port int) func(*api.Gate) {
		return func(g *api.Gate) { g.X[at].B, g.X[at].Wait = port, nil }
	}
	for _, port := range []int{20, 0, math.MaxInt} {
		checkDo(t, fmt.Sprintf("%d is there", port), theGate(), dialed(12, port), changed(joined(2, port)), sent(port, "x"), sent(port, "yz"))
		checkDo(t, fmt.Sprintf("%d is there, and nothing waits", port), theGate(), dialed(13, port), changed(joined(1, port)))
	}
	for _, port := range []int{20, -1, 10, 12, 13} {
		checkDo(t, "the last link's is not there", theGate(), api.Ev{Kind: aDialed, Conn: 12, Port: port}, changed(func(g *api.Gate) { g.X = without(g.X, 2) }), shut(12))
		checkDo(t, "another link's is not there", theGate(), api.Ev{Kind: aDialed, Conn: 13, Port: port}, changed(func(g *api.Gate) { g.X = without(g.X, 1) }), shut(13))
	}
}

// P22.2, Dialed: a Port that is none, or is used, comes ahead of who asked; and who did not ask is none.
func TestDialedErrors(t *testing.T) {
	for _, conn := range []int{5, 12, 13, 1, 6, 10, 11, 2, 77, -1} {
		for _, port := range []int{-1, -2, math.MinInt} {
			checkNo(t, fmt.Sprintf("%d asked, and %d is there", conn, port), theGate(), dialed(conn, port), api.ErrArg)
		}
		for what, port := range usedBy {
			checkNo(t, fmt.Sprintf("%d asked, and %s is there", conn, what), theGate(), dialed(conn, port), api.ErrArg)
		}
		if conn == 5 || conn == 12 || conn == 13 {
			checkNo(t, fmt.Sprintf("%d is there itself", conn), theGate(), dialed(conn, conn), api.ErrArg)
		}
	}
	for _, conn := range []int{1, 3, 6, 2, 4, 7, 10, 11, 77, 0, -1, -2, math.MinInt, math.MaxInt} {
		checkNo(t, fmt.Sprintf("%d did not ask", conn), theGate(), dialed(conn, 20), api.ErrNone)
		checkNo(t, fmt.Sprintf("%d did not ask, and nobody is there", conn), theGate(), api.Ev{Kind: aDialed, Conn: conn, Port: 20}, api.ErrNone)
	}
	for phase := atNeedUser; phase < atGone; phase++ {
		up := 8
		if phase < atGreet {
			up = -1
		}
		if phase == atDialing {
			continue
		}
		g := changed(func(g *api.Gate) { g.S[2] = of(phase, 5, up, 0) })
		for _, is := range []bool{false, true} {
			checkNo(t, fmt.Sprintf("of phase %d", phase), g, api.Ev{Kind: aDialed, Conn: 5, Port: 20, Up: is}, api.ErrNone)
		}
	}
}

// comes is somebody who comes to a port.
func comes(conn int, host api.Host, port int) api.Ev {
	return api.Ev{Kind: aCome, Conn: conn, Host: host, Port: port}
}

// oneLink leaves the first session one link.
func oneLink(g *api.Gate) { g.X = g.X[:2] }

// P22.2, Come: who a pinhole is for is let through, and it is used up.
func TestCome(t *testing.T) {
	through := func(at, sess, conn int) func(*api.Gate) {
		return func(g *api.Gate) {
			g.H = without(g.H, at)
			g.X = append(g.X, api.Link{Sess: sess, A: conn, B: -1})
		}
	}
	for _, conn := range []int{20, 0, math.MaxInt} {
		checkDo(t, "the client", changed(oneLink), comes(conn, me, 2000), changed(oneLink, through(0, 1, conn)), dial(conn, api.End{Host: serverA, Port: 5000}))
		checkDo(t, "the server", changed(oneLink), comes(conn, serverA, 2001), changed(oneLink, through(1, 1, conn)), dial(conn, api.End{Host: me, Port: 6000}))
		checkDo(t, "another tenant's client", theGate(), comes(conn, me, 3000), changed(through(2, 3, conn)), dial(conn, api.End{Host: serverB, Port: 7000}))
	}
	none := func(g *api.Gate) { g.X = nil }
	checkDo(t, "without a link", changed(none), comes(20, me, 2000), changed(none, through(0, 1, 20)), dial(20, api.End{Host: serverA, Port: 5000}))
}

// P22.2, Come: nobody else is let through, and then nothing is used up.
func TestComeOfStrangers(t *testing.T) {
	for _, host := range []api.Host{you, serverA, serverB, own, {}, {10, 0, 0, 0}, {11, 0, 0, 1}, {10, 1, 0, 0}} {
		checkDo(t, fmt.Sprintf("%v to the client's", host), changed(oneLink), comes(20, host, 2000), changed(oneLink), shut(20))
	}
	for _, host := range []api.Host{you, me, serverB} {
		checkDo(t, fmt.Sprintf("%v to the server's", host), changed(oneLink), comes(20, host, 2001), changed(oneLink), shut(20))
	}
	for _, port := range []int{2002, 1999, 3001, 0, -2000, 21, 5000, 2000 + 65536, 2000 + 1<<32, math.MinInt, math.MaxInt} {
		checkDo(t, fmt.Sprintf("to %d", port), changed(oneLink), comes(20, me, port), changed(oneLink), shut(20))
	}
	checkDo(t, "where there is none", changed(bare), comes(20, me, 2000), changed(bare), shut(20))
}

// P22.2, Come: up to its time, which at the last time of all is told by its Dead alone.
func TestComeInTime(t *testing.T) {
	last := func(now, dead int) api.Gate {
		return changed(oneLink, func(g *api.Gate) {
			g.Now, g.H = now, []api.Hole{pin}
			g.H[0].Dead = dead
		})
	}
	through := func(g api.Gate) api.Gate {
		g.H = nil
		g.X = append(g.X, api.Link{Sess: 1, A: 20, B: -1})
		return g
	}
	for _, now := range []int{0, 5, 8, maxTaken - 2} {
		g := last(now, now+1)
		checkDo(t, fmt.Sprintf("one ahead of it, at %d", now), g, comes(20, me, 2000), through(last(now, now+1)), dial(20, pin.To))
	}
	checkDo(t, "one ahead of the last time", last(maxTaken-1, maxTaken), comes(20, me, 2000), through(last(maxTaken-1, maxTaken)), dial(20, pin.To))
	for _, dead := range []int{maxTaken, maxTaken - 1, 5, 0} {
		checkDo(t, fmt.Sprintf("at the last time, over at %d", dead), last(maxTaken, dead), comes(20, me, 2000), last(maxTaken, dead), shut(20))
	}
	// One tick ahead of its time, and behind it.
	for ticks, want := range map[int]string{3: dial(20, pin.To), 4: shut(20), 5: shut(20)} {
		g := changed(oneLink)
		for range ticks {
			g, _, _ = Do(g, api.Ev{Kind: aTick})
		}
		_, out, _ := Do(g, comes(20, me, 2000))
		checkOuts(t, fmt.Sprintf("behind %d ticks", ticks), out, want)
	}
}

// P22.2, Come: as many links as may be; the next one is shut, but its pinhole is used up no less.
func TestComeBeyondLinks(t *testing.T) {
	used := func(at ...int) func(*api.Gate) { return func(g *api.Gate) { g.H = without(g.H, at...) } }
	checkDo(t, "the third one, the client", theGate(), comes(20, me, 2000), changed(used(0)), shut(20))
	checkDo(t, "the third one, the server", theGate(), comes(20, serverA, 2001), changed(used(1)), shut(20))
	checkDo(t, "the third one, once more", changed(used(0)), comes(20, me, 2000), changed(used(0)), shut(20))
	g := theGate()
	g.H = append(g.H, pin)
	g.H[3].Port = 2002
	g.X = g.X[1:2]
	for i, x := range []struct {
		e    api.Ev
		out  string
		left int
	}{
		{comes(20, me, 2000), dial(20, pin.To), 3},
		{comes(21, me, 2000), shut(21), 3},
		{comes(21, me, 2002), dial(21, pin.To), 2},
		{comes(22, serverA, 2001), shut(22), 1},
		{comes(23, serverA, 2001), shut(23), 1},
		{comes(24, me, 3000), dial(24, another.To), 0},
		{comes(25, me, 3000), shut(25), 0},
	} {
		next, out, no := Do(g, x.e)
		if no != 0 || len(next.H) != x.left || !May(next) {
			t.Errorf("%d: error %d, %s", i, no, show(next))
		}
		checkOuts(t, fmt.Sprint(i), out, x.out)
		g = next
	}
	if len(g.X) != 4 {
		t.Errorf("links: %s", show(g))
	}
}

// P22.2, Come: a connection that is none, or is used.
func TestComeOfUsed(t *testing.T) {
	for _, port := range []int{2000, 9, 3000} {
		for _, conn := range []int{-1, -2, math.MinInt} {
			checkNo(t, fmt.Sprintf("%d comes to %d", conn, port), theGate(), comes(conn, me, port), api.ErrArg)
		}
		for what, conn := range usedBy {
			checkNo(t, fmt.Sprintf("%s comes to %d", what, port), theGate(), comes(conn, me, port), api.ErrArg)
		}
	}
}

// closes is one who goes.
func closes(conn int) api.Ev { return api.Ev{Kind: aClosed, Conn: conn} }

// noFirst is theGate without its first session, and noOther without the other one that is in.
func noFirst(g *api.Gate) { g.S, g.H, g.X = without(g.S, 0), without(g.H, 0, 1), without(g.X, 0, 2) }

func noOther(g *api.Gate) { g.S, g.H, g.X = without(g.S, 1), without(g.H, 2), without(g.X, 1) }

// P22.2, Closed: a session's connections, with which all that is its goes, in order.
func TestClosedOfSession(t *testing.T) {
	for _, conn := range []int{1, 2} {
		checkDo(t, fmt.Sprintf("%d goes", conn), theGate(), closes(conn), changed(noFirst), shuts(1, 2, 10, 11, 12)...)
	}
	for _, conn := range []int{3, 4} {
		checkDo(t, fmt.Sprintf("%d goes", conn), theGate(), closes(conn), changed(noOther), shuts(3, 4, 13)...)
	}
	checkDo(t, "one that is asked for", theGate(), closes(5), changed(func(g *api.Gate) { g.S = without(g.S, 2) }), shut(5))
	for _, conn := range []int{6, 7} {
		checkDo(t, fmt.Sprintf("%d goes", conn), theGate(), closes(conn), changed(func(g *api.Gate) { g.S = without(g.S, 3) }), shuts(6, 7)...)
	}
	turned := func(g *api.Gate) { g.X[0], g.X[2] = g.X[2], g.X[0] }
	checkDo(t, "links in another order", changed(turned), closes(1), changed(noFirst), shuts(1, 2, 12, 10, 11)...)
	checkDo(t, "without anything", changed(bare), closes(1), changed(bare, func(g *api.Gate) { g.S = without(g.S, 0) }), shuts(1, 2)...)
}

// P22.2, Closed: a link's connections, with which the other one goes, and nothing else.
func TestClosedOfLink(t *testing.T) {
	cut := func(at int) api.Gate { return changed(func(g *api.Gate) { g.X = without(g.X, at) }) }
	checkDo(t, "A goes", theGate(), closes(10), cut(0), shuts(10, 11)...)
	checkDo(t, "B goes", theGate(), closes(11), cut(0), shuts(10, 11)...)
	checkDo(t, "A goes, and asked", theGate(), closes(13), cut(1), shut(13))
	checkDo(t, "A goes, and bytes wait", theGate(), closes(12), cut(2), shut(12))
}

// P22.2, Closed: a connection of nobody.
func TestClosedOfNobody(t *testing.T) {
	for _, conn := range []int{-1, -2, 0, 8, 9, 14, 77, 1 << 32, 1<<32 + 1, math.MinInt, math.MaxInt} {
		checkNo(t, fmt.Sprintf("%d goes", conn), theGate(), closes(conn), api.ErrNone)
	}
}

// P22.2, Tick: on by one, and pinholes that are over then go.
func TestTick(t *testing.T) {
	tick := api.Ev{Kind: aTick}
	at := func(now int, left ...int) func(*api.Gate) {
		return func(g *api.Gate) {
			g.Now = now
			var h []api.Hole
			for _, i := range left {
				h = append(h, g.H[i])
			}
			g.H = h
		}
	}
	g := changed(at(4, 0, 1, 2))
	for now, left := range [][]int{5: {0, 1, 2}, 6: {0, 2}, 7: {0, 2}, 8: {0, 2}, 9: {2}, 10: {2}, 11: {2}, 12: {2}, 13: {2}, 14: {2}, 15: {}, 16: {}} {
		if now < 5 {
			continue
		}
		want := changed(at(now, left...))
		checkDo(t, fmt.Sprintf("to %d", now), g, tick, want)
		g = want
	}
	checkDo(t, "with all else told, too", theGate(), api.Ev{Kind: aTick, Conn: 1, Port: 2, Host: me, Up: true, B: []byte("QUIT\r\n"), Draw: 7}, changed(at(6, 0, 2)))
	checkDo(t, "with a conn that is none", theGate(), api.Ev{Kind: aTick, Conn: -1, Port: -1}, changed(at(6, 0, 2)))
}

// came tells when something came last of each session, at a time without pinholes.
func came(now int, last ...int) func(*api.Gate) {
	return func(g *api.Gate) {
		g.Now, g.H = now, nil
		for i := range g.S {
			g.S[i].Last = last[i]
		}
	}
}

// P22.2, Tick: sessions of which nothing came for long go, in order, and all that is theirs with them.
func TestTickOfIdle(t *testing.T) {
	tick := api.Ev{Kind: aTick}
	now := func(n int) func(*api.Gate) { return func(g *api.Gate) { g.Now = n } }
	// Idle is 50: of 10 on till 60.
	checkDo(t, "one ahead", changed(came(58, 10, 10, 10, 10)), tick, changed(came(58, 10, 10, 10, 10), now(59)))
	for i, x := range []struct {
		last []int
		how  func(*api.Gate)
		out  []string
	}{
		{[]int{11, 11, 11, 11}, func(*api.Gate) {}, nil},
		{[]int{10, 11, 11, 11}, noFirst, shuts(1, 2, 10, 11, 12)},
		{[]int{11, 10, 11, 11}, noOther, shuts(3, 4, 13)},
		{[]int{11, 11, 10, 11}, func(g *api.Gate) { g.S = without(g.S, 2) }, shuts(5)},
		{[]int{11, 11, 11, 10}, func(g *api.Gate) { g.S = without(g.S, 3) }, shuts(6, 7)},
		{[]int{10, 11, 10, 11}, func(g *api.Gate) { g.S, g.X = without(g.S, 0, 2), without(g.X, 0, 2) }, shuts(1, 2, 10, 11, 12, 5)},
		{[]int{9, 0, 11, 60}, func(g *api.Gate) { g.S, g.X = without(g.S, 0, 1), nil }, shuts(1, 2, 10, 11, 12, 3, 4, 13)},
		{[]int{10, 10, 10, 10}, func(g *api.Gate) { g.S, g.X = nil, nil }, shuts(1, 2, 10, 11, 12, 3, 4, 13, 5, 6, 7)},
		{[]int{maxTaken, 11, 10, 9}, func(g *api.Gate) { g.S = without(g.S, 2, 3) }, shuts(5, 6, 7)},
	} {
		checkDo(t, fmt.Sprintf("idle %d", i), changed(came(59, x.last...)), tick, changed(came(59, x.last...), x.how, now(60)), x.out...)
	}
	turned := func(g *api.Gate) { g.S[0], g.S[1], g.S[2], g.S[3] = g.S[3], g.S[2], g.S[1], g.S[0] }
	checkDo(t, "in another order", changed(came(59, 1, 1, 1, 1), turned), tick, changed(came(60, 1, 1, 1, 1), bare, func(g *api.Gate) { g.S = nil }), shuts(6, 7, 5, 3, 4, 13, 1, 2, 10, 11, 12)...)
	short := func(g *api.Gate) { g.C.Idle = 1 }
	checkDo(t, "Idle 1", changed(came(5, 6, 5, 6, 5), short), tick, changed(came(6, 6, 5, 6, 5), short, func(g *api.Gate) { g.S, g.X = without(g.S, 1, 3), without(g.X, 1) }), shuts(3, 4, 13, 6, 7)...)
}

// P22.2, Tick: at the last time of all, at which all is over, and to it; what goes beyond is taken as that.
func TestTickAtTheLast(t *testing.T) {
	tick := api.Ev{Kind: aTick}
	none := func(g *api.Gate) { g.Now, g.S, g.H, g.X = maxTaken, nil, nil, nil }
	all := shuts(1, 2, 10, 11, 12, 3, 4, 13, 5, 6, 7)
	for _, last := range []int{0, 5, maxTaken - 1, maxTaken} {
		checkDo(t, fmt.Sprintf("at the last, of %d", last), changed(came(maxTaken, last, last, last, last)), tick, changed(none), all...)
		checkDo(t, fmt.Sprintf("to the last, of %d", last), changed(came(maxTaken-1, last, last, last, last)), tick, changed(none), all...)
	}
	late := func(g *api.Gate) {
		came(maxTaken-2, maxTaken, maxTaken, maxTaken, maxTaken)(g)
		g.H = []api.Hole{pin, another}
		g.H[0].Dead, g.H[1].Dead = maxTaken-1, maxTaken
	}
	checkDo(t, "ahead of the last", changed(late), tick, changed(late, func(g *api.Gate) { g.Now, g.H = maxTaken-1, g.H[1:] }))
	checkDo(t, "pinholes at the last", changed(late, func(g *api.Gate) { g.Now = maxTaken }), tick, changed(none), all...)
	long := func(g *api.Gate) { g.C.Idle = maxTaken }
	checkDo(t, "idle till the last", changed(late, long), tick, changed(late, long, func(g *api.Gate) { g.Now, g.H = maxTaken-1, g.H[1:] }))
	checkDo(t, "idle at the last", changed(long, came(maxTaken-1, 0, 0, 1, 1)), tick, changed(none, long), all...)
	checkDo(t, "nobody at the last", changed(none), tick, changed(none))
}
