package gate

import (
	"fmt"
	"slices"
	"testing"

	"wharfinger/api"
)

// checkRun holds Run to Do, one event behind the other, and answers what both tell.
func checkRun(t *testing.T, what string, g api.Gate, l []api.Ev) (api.Gate, []api.Out) {
	t.Helper()
	want := g
	var all []string
	for _, e := range l {
		next, out, no := Do(want, e)
		if no == 0 {
			want, all = next, append(all, texts(out)...)
		}
	}
	got, out := Run(g, l)
	checkGate(t, what, got, want)
	checkOuts(t, what, out, all...)
	return got, out
}

// P22.3: of no events, also of what may not be, that stays.
func TestRunOfNothing(t *testing.T) {
	for _, l := range [][]api.Ev{nil, {}} {
		for _, x := range slices.Concat(mayBe, mayNotBe) {
			g, out := Run(changed(x.how), l)
			checkGate(t, x.what, g, changed(x.how))
			checkOuts(t, x.what, out)
		}
	}
}

// P22.3: what has an error changes nothing, wherever it stands.
func TestRunWithErrors(t *testing.T) {
	wrong := []api.Ev{{Kind: -1}, {Kind: 6}, {Kind: anOpen, Conn: 1}, {Kind: anOpen, Conn: -1}, bytesOn(77, "x"), bytesOn(-1, "NOOP\r\n"), dialed(5, 2), dialed(77, 20), comes(10, me, 2000), closes(-1), closes(77)}
	right := []api.Ev{bytesOn(1, "NOOP\r\n"), bytesOn(2, "200 ok\r\n"), {Kind: aTick}, dialed(5, 20), closes(10)}
	// The second pinhole is over at the tick.
	want := changed(func(g *api.Gate) {
		g.Now, g.H = 6, without(g.H, 1)
		g.S[2] = of(atGreet, 5, 20, 0)
		g.X = without(g.X, 0)
	})
	out := list(said(2, "NOOP"), said(1, "200 ok"), shut(10), shut(11))
	g, l := checkRun(t, "without errors", theGate(), right)
	checkGate(t, "without errors", g, want)
	checkOuts(t, "without errors", l, out...)
	for i, e := range wrong {
		g, l = checkRun(t, "one that is wrong", theGate(), []api.Ev{e})
		checkGate(t, fmt.Sprintf("wrong %d", i), g, theGate())
		checkOuts(t, fmt.Sprintf("wrong %d", i), l)
		for at := range len(right) + 1 {
			if at == len(right) && e.Kind == aCome {
				continue // By then 10 is free.
			}
			what := fmt.Sprintf("wrong %d at %d", i, at)
			g, l = checkRun(t, what, theGate(), slices.Insert(slices.Clone(right), at, e))
			checkGate(t, what, g, want)
			checkOuts(t, what, l, out...)
		}
	}
	g, l = checkRun(t, "all that is wrong", theGate(), wrong)
	checkGate(t, "all that is wrong", g, theGate())
	checkOuts(t, "all that is wrong", l)
}

// P22.3: of what may not be each event has an error, so that it stays.
func TestRunOfNone(t *testing.T) {
	l := []api.Ev{{Kind: anOpen, Conn: 77, Host: me}, bytesOn(1, "NOOP\r\n"), {Kind: aTick}, closes(1), comes(78, me, 2000)}
	for _, x := range mayNotBe {
		g, out := checkRun(t, x.what, changed(x.how), l)
		checkGate(t, x.what, g, changed(x.how))
		checkOuts(t, x.what, out)
	}
}

// step is what happens, and all that goes out; and how many sessions, pinholes and links there are then.
type step struct {
	e       api.Ev
	out     []string
	s, h, x int
}

// walked goes through steps from a new gateway on.
func walked(t *testing.T, c api.Conf, l []step) api.Gate {
	t.Helper()
	g, err := New(c)
	if err != nil {
		t.Fatal(err)
	}
	var all []api.Ev
	var goes []string
	begun := g
	for i, x := range l {
		next, out, no := Do(g, x.e)
		what := fmt.Sprintf("step %d, %+v", i, x.e)
		if no != 0 || len(next.S) != x.s || len(next.H) != x.h || len(next.X) != x.x || !May(next) {
			t.Fatalf("%s: error %d, %s", what, no, show(next))
		}
		checkOuts(t, what, out, x.out...)
		g, all, goes = next, append(all, x.e), append(goes, x.out...)
	}
	got, out := checkRun(t, "all at once", begun, all)
	checkGate(t, "all at once", got, g)
	checkOuts(t, "all at once", out, goes...)
	return g
}

// P22.2, P22.3, P22.4: a whole run, by hand: two tenants' clients, both ways of carrying, and what all of it comes to.
func TestWholeRun(t *testing.T) {
	c := theConf()
	c.Life, c.Tenants[0].Each, c.Tenants[0].Quota = 3, 30, 40
	tick := api.Ev{Kind: aTick}
	g := walked(t, c, []step{
		{api.Ev{Kind: anOpen, Conn: 1, Host: me}, list(said(1, "220 Ready.")), 1, 0, 0},
		{api.Ev{Kind: anOpen, Conn: 2, Host: you}, list(said(2, "220 Ready.")), 2, 0, 0},
		{api.Ev{Kind: anOpen, Conn: 3, Host: you}, list(said(3, "421 Too many."), shut(3)), 2, 0, 0},
		{bytesOn(1, "USER me@ftp.a\r\n"), list(dial(1, api.End{Host: serverA, Port: 21})), 2, 0, 0},
		{bytesOn(2, "USER you@ftp.b\r\n"), list(dial(2, api.End{Host: serverB, Port: 2121})), 2, 0, 0},
		{api.Ev{Kind: aDialed, Conn: 1}, list(said(1, "421 No server.")), 2, 0, 0},
		{bytesOn(1, "USER me@ftp.a\r\n"), list(dial(1, api.End{Host: serverA, Port: 21})), 2, 0, 0},
		{dialed(1, 11), nil, 2, 0, 0},
		{dialed(2, 12), nil, 2, 0, 0},
		{bytesOn(11, "220 hi\r\n"), list(said(11, "USER me")), 2, 0, 0},
		{bytesOn(12, "220-hi\r\n220 you\r\n"), list(said(12, "USER you")), 2, 0, 0},
		{bytesOn(11, "331 so?\r\n"), list(said(1, "331 so?")), 2, 0, 0},
		{bytesOn(1, "PASS x\r\n"), list(said(11, "PASS x")), 2, 0, 0},
		{bytesOn(11, "230 in\r\n"), list(said(1, "230 in")), 2, 0, 0},
		{api.Ev{Kind: anOpen, Conn: 3, Host: you}, list(said(3, "220 Ready.")), 3, 0, 0},
		{bytesOn(12, "230 in\r\n"), list(said(2, "230 in")), 3, 0, 0},
		// The client asks where to come, and comes ahead of the server, which is asked for then.
		{bytesOn(1, "PASV\r\n"), list(said(11, "PASV")), 3, 0, 0},
		{bytesOn(11, "227 ok (10,1,0,1,8,0)\r\n"), list(said(1, "227 Entering Passive Mode (10,0,0,9,7,208).")), 3, 1, 0},
		{comes(20, you, 2000), shuts(20), 3, 1, 0},
		{comes(20, me, 2001), shuts(20), 3, 1, 0},
		{comes(20, me, 2000), list(dial(20, api.End{Host: serverA, Port: 2048})), 3, 0, 1},
		{comes(21, me, 2000), shuts(21), 3, 0, 1},
		{bytesOn(1, "STOR up/f\r\n"), list(said(11, "STOR /up/f")), 3, 0, 1},
		{bytesOn(20, "ab"), nil, 3, 0, 1},
		{bytesOn(20, "cd"), nil, 3, 0, 1},
		{dialed(20, 22), list(sent(22, "ab"), sent(22, "cd")), 3, 0, 1},
		{bytesOn(20, "ef"), list(sent(22, "ef")), 3, 0, 1},
		{closes(20), shuts(20, 22), 3, 0, 0},
		{bytesOn(11, "226 done\r\n"), list(said(1, "226 done")), 3, 0, 0},
		// The client tells where the server is to come.
		{bytesOn(1, "PORT 10,0,0,2,8,0\r\n"), list(said(1, "504 Not that address.")), 3, 0, 0},
		{bytesOn(1, "PORT 10,0,0,1,8,0\r\n"), list(said(11, "PORT 10,0,0,9,7,208")), 3, 1, 0},
		{bytesOn(11, "200 ok\r\n"), list(said(1, "200 ok")), 3, 1, 0},
		{bytesOn(1, "RETR f\r\n"), list(said(11, "RETR /f")), 3, 1, 0},
		{comes(20, me, 2000), shuts(20), 3, 1, 0},
		{comes(20, serverA, 2000), list(dial(20, api.End{Host: me, Port: 2048})), 3, 0, 1},
		{dialed(20, 0), nil, 3, 0, 1},
		{bytesOn(20, "0123456789"), list(sent(0, "0123456789")), 3, 0, 1},
		{bytesOn(20, "0123456789xyzuv"), list(sent(0, "0123456789xyzu"), said(1, "552 Quota."), shut(20), shut(0)), 3, 0, 0},
		{bytesOn(11, "426 cut\r\n"), list(said(1, "426 cut")), 3, 0, 0},
		// The other tenant has one port alone, which is free again when its pinhole is over.
		{bytesOn(2, "EPSV\r\n"), list(said(12, "EPSV")), 3, 0, 0},
		{bytesOn(12, "229 (|||4000|)\r\n"), list(said(2, "229 Entering Extended Passive Mode (|||3000|).")), 3, 1, 0},
		{bytesOn(2, "EPSV\r\n"), list(said(12, "EPSV")), 3, 1, 0},
		{bytesOn(12, "229 (|||4001|)\r\n"), list(said(2, "425 No port.")), 3, 1, 0},
		{tick, nil, 3, 1, 0},
		{tick, nil, 3, 1, 0},
		{tick, nil, 3, 0, 0},
		{comes(20, you, 3000), shuts(20), 3, 0, 0},
		{bytesOn(2, "EPSV\r\n"), list(said(12, "EPSV")), 3, 0, 0},
		{bytesOn(12, "229 (|||4001|)\r\n"), list(said(2, "229 Entering Extended Passive Mode (|||3000|).")), 3, 1, 0},
		{comes(20, you, 3000), list(dial(20, api.End{Host: serverB, Port: 4001})), 3, 0, 1},
		{api.Ev{Kind: aDialed, Conn: 20}, shuts(20), 3, 0, 0},
		// A third one would come in where one is all that may be.
		{bytesOn(3, "USER third@ftp.b\r\n"), list(dial(3, api.End{Host: serverB, Port: 2121})), 3, 0, 0},
		{dialed(3, 13), nil, 3, 0, 0},
		{bytesOn(13, "220 hi\r\n230 in\r\n"), list(said(13, "USER third"), said(3, "421 Too many."), shut(3), shut(13)), 2, 0, 0},
		// One goes in the midst of all, and nothing of it is left.
		{bytesOn(1, "PASV\r\n"), list(said(11, "PASV")), 2, 0, 0},
		{drawn(11, "227 ok (10,1,0,1,9,0)\r\n", 2), list(said(1, "227 Entering Passive Mode (10,0,0,9,7,210).")), 2, 1, 0},
		{comes(20, me, 2002), list(dial(20, api.End{Host: serverA, Port: 2304})), 2, 0, 1},
		{bytesOn(1, "PASV\r\n"), list(said(11, "PASV")), 2, 0, 1},
		{bytesOn(11, "227 ok (10,1,0,1,9,0)\r\n"), list(said(1, "227 Entering Passive Mode (10,0,0,9,7,208).")), 2, 1, 1},
		{closes(11), shuts(1, 11, 20), 1, 0, 0},
		{comes(20, me, 2000), shuts(20), 1, 0, 0},
	})
	if g.Now != 3 || g.All[0] != 30 || g.All[1] != 0 || g.S[0].ID != 2 || g.S[0].Last != 3 {
		t.Error(show(g))
	}
}

// P22.4: a tenant's bytes are counted beyond a session's end, and a new session's own from none on.
func TestCountedOn(t *testing.T) {
	c := theConf()
	c.Pre, c.Tenants = 1, c.Tenants[:1]
	enter := []step{
		{api.Ev{Kind: anOpen, Conn: 1, Host: me}, list(said(1, "220 Ready.")), 1, 0, 0},
		{bytesOn(1, "USER me@ftp.a\r\n"), list(dial(1, api.End{Host: serverA, Port: 21})), 1, 0, 0},
		{dialed(1, 2), nil, 1, 0, 0},
		{bytesOn(2, "220 hi\r\n230 in\r\n"), list(said(2, "USER me"), said(1, "230 in")), 1, 0, 0},
		{bytesOn(1, "PASV\r\n"), list(said(2, "PASV")), 1, 0, 0},
		{bytesOn(2, "227 ok (10,1,0,1,8,0)\r\n"), list(said(1, "227 Entering Passive Mode (10,0,0,9,7,208).")), 1, 1, 0},
		{comes(3, me, 2000), list(dial(3, api.End{Host: serverA, Port: 2048})), 1, 0, 1},
		{dialed(3, 4), nil, 1, 0, 1},
	}
	g := walked(t, c, slices.Concat(enter, []step{
		{bytesOn(4, "0123456789ab"), list(sent(3, "0123456789ab")), 1, 0, 1},
		{bytesOn(3, "x"), list(said(1, "552 Quota."), shut(3), shut(4)), 1, 0, 0},
		{bytesOn(1, "QUIT\r\n"), list(said(1, "221 Goodbye."), shut(1), shut(2)), 0, 0, 0},
	}, enter, []step{
		{bytesOn(4, "01234567"), list(sent(3, "01234567")), 1, 0, 1},
		{bytesOn(4, "x"), list(said(1, "552 Quota."), shut(3), shut(4)), 1, 0, 0},
	}))
	if g.All[0] != 20 || g.S[0].Used != 8 {
		t.Error(show(g))
	}
}
