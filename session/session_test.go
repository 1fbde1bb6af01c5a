package session

import (
	"fmt"
	"math"
	"reflect"
	"slices"
	"strings"
	"testing"

	"wharfinger/api"
	"wharfinger/conf"
	"wharfinger/verb"
)

// The phases by the document's own order, so that a table by hand tells them.
const (
	atNeedUser, atDialing, atGreet, atUserSent, atNeedPass, atPassSent, atIn, atGone = 0, 1, 2, 3, 4, 5, 6, 7
)

// maxTaken is 2^40, which the document calls Max.
const maxTaken = 1099511627776

// Who is where in most tests: the client, the gateway, and the servers of both tenants.
var (
	me     = api.Host{10, 0, 0, 1}
	gate   = api.Host{10, 0, 0, 9}
	server = api.Host{10, 1, 0, 1}
	other  = api.Host{10, 2, 0, 1}
)

// idle is what is under way where nothing is, and nothing came ahead.
var idle = api.Order{Start: -1}

func busy(verb string, pend int) api.Order { return api.Order{Verb: verb, Pend: pend, Start: -1} }

// theConf is one of two tenants, of three ports and of one.
func theConf() api.Conf {
	return api.Conf{Own: gate, Pre: 2, Life: 10, Idle: 50, Tenants: []api.Tenant{
		{Name: "a", Host: "ftp.a", At: api.End{Host: server, Port: 21}, Low: 2000, High: 2002, Sessions: 1, Holes: 2, Quota: 8, Each: 6,
			Rules: []api.Rule{{Verb: "STOR", Path: "/pub"}, {Path: "/secret"}, {Verb: "SYST", Path: "/mute"}, {Allow: true, Path: "/"}}},
		{Name: "b", Host: "ftp.b", At: api.End{Host: other, Port: 2121}, Low: 3000, High: 3000, Sessions: 2, Holes: 1, Quota: 100, Each: 100,
			Rules: []api.Rule{{Allow: true, Verb: "LIST", Path: "/pub"}}},
	}}
}

// withRules is theConf with other rules of the first tenant.
func withRules(l ...api.Rule) api.Conf {
	c := theConf()
	c.Tenants[0].Rules = l
	return c
}

// of is a session that may be, in a phase: of connection 1, with a server by connection 2, if it has one.
func of(phase int) api.Sess {
	s := api.Sess{ID: 1, Up: 2, Peer: me, L: api.Login{Phase: phase, User: "me"}, O: idle, Last: 5}
	switch phase {
	case atNeedUser, atGone:
		s.Up, s.L.Tenant, s.L.User = -1, -1, ""
	case atDialing:
		s.Up = -1
	case atIn:
		s.Cwd = "/a"
	}
	return s
}

// phases are all of them.
var phases = []int{atNeedUser, atDialing, atGreet, atUserSent, atNeedPass, atPassSent, atIn, atGone}

// within is a session that is in, with what is under way.
func within(o api.Order) api.Sess {
	s := of(atIn)
	s.O = o
	return s
}

// going is one that changes its directory, and what would be its place then.
func going(o api.Order, hold string) api.Sess {
	s := within(o)
	s.Hold = hold
	return s
}

// changed is a session of which something is otherwise.
func changed(s api.Sess, how func(*api.Sess)) api.Sess {
	how(&s)
	return s
}

// over is what is left of a session that has ended.
func over(s api.Sess) api.Sess {
	return api.Sess{ID: s.ID, Up: -1, Peer: s.Peer, L: api.Login{Phase: atGone, Tenant: -1}, O: idle, Last: s.Last}
}

// full is a session all parts of which tell something, and that may be.
func full() api.Sess {
	return api.Sess{
		ID: 1, Up: 2, Peer: me, L: api.Login{Phase: atIn, Tenant: 1, User: "me"}, O: api.Order{Verb: "CWD", Pend: 2, From: true, Start: 7}, Cwd: "/a", Hold: "/b",
		C: api.Framer{B: []byte("ab"), Cr: true}, S: api.Framer{B: []byte("cd"), Skip: true}, Tel: 1,
		G: api.Gather{Code: 220, Lines: []string{"x", "y"}, Open: true}, Used: 3, Last: 4,
	}
}

// What goes out, as tables by hand have it.
func said(lines ...string) string  { return "1<" + strings.Join(lines, "\r\n") + "\r\n" }
func asked(lines ...string) string { return "2<" + strings.Join(lines, "\r\n") + "\r\n" }
func shut(conn int) string         { return fmt.Sprintf("shut %d", conn) }

func dial(conn int, e api.End) string { return fmt.Sprintf("dial %d %v", conn, e) }

// texts are what goes out, one by one, with all that has no meaning there if it is told no less.
func texts(l []api.Out) []string {
	var all []string
	for _, o := range l {
		s := fmt.Sprintf("%+v", o)
		switch {
		case o.Kind == 0 && o.To == api.End{}:
			s = fmt.Sprintf("%d<%s", o.Conn, o.B)
		case o.Kind == 1 && o.To == api.End{} && len(o.B) == 0:
			s = shut(o.Conn)
		case o.Kind == 2 && len(o.B) == 0:
			s = dial(o.Conn, o.To)
		}
		all = append(all, s)
	}
	return all
}

// norm is a session whose lists without elements are nil, so that all of its parts can be held against another one's.
func norm(s api.Sess) api.Sess {
	if len(s.C.B) == 0 {
		s.C.B = nil
	}
	if len(s.S.B) == 0 {
		s.S.B = nil
	}
	if len(s.G.Lines) == 0 {
		s.G.Lines = nil
	}
	return s
}

func alike(a, b api.Sess) bool { return reflect.DeepEqual(norm(a), norm(b)) }

func checkSess(t *testing.T, what string, s, want api.Sess) {
	t.Helper()
	if !alike(s, want) {
		t.Errorf("%s: session %+v, want %+v", what, s, want)
	}
}

func checkHoles(t *testing.T, what string, h, want []api.Hole) {
	t.Helper()
	if !slices.Equal(h, want) {
		t.Errorf("%s: pinholes %+v, want %+v", what, h, want)
	}
}

func checkOuts(t *testing.T, what string, l []api.Out, want ...string) {
	t.Helper()
	if !slices.Equal(texts(l), want) {
		t.Errorf("%s: out %q, want %q", what, texts(l), want)
	}
}

// answer is what is answered: a session, all pinholes, and what goes out.
type answer struct {
	s   api.Sess
	h   []api.Hole
	out []api.Out
}

// checkAnswer holds an answer against what is wanted, and against P20.5: of a session that may be it is one, too.
func checkAnswer(t *testing.T, what string, was api.Sess, got, want answer, out []string) {
	t.Helper()
	checkSess(t, what, got.s, want.s)
	checkHoles(t, what, got.h, want.h)
	checkOuts(t, what, got.out, out...)
	if May(was) && !May(got.s) {
		t.Errorf("%s: %+v may not be", what, got.s)
	}
}

// short is a text as a test tells it.
func short(s string) string {
	if len(s) > 80 {
		return s[:80] + ".."
	}
	return s
}

// P20.1: every field, and the bytes that are said, also of numbers by which no session may be.
func TestNew(t *testing.T) {
	for _, id := range []int{-1, 0, 1, 2, 77, math.MinInt, math.MaxInt} {
		for _, now := range []int{0, 1, 5, -1, maxTaken, maxTaken + 1, math.MinInt, math.MaxInt} {
			for _, peer := range []api.Host{{}, me, {255, 255, 255, 255}} {
				s, out := New(id, peer, now)
				want := api.Sess{ID: id, Up: -1, Peer: peer, L: api.Login{Phase: 0, Tenant: -1}, O: api.Order{Start: -1}, Last: now}
				what := fmt.Sprintf("New(%d, %v, %d)", id, peer, now)
				checkSess(t, what, s, want)
				checkOuts(t, what, out, fmt.Sprintf("%d<220 Ready.\r\n", id))
				if may := id >= 0 && now >= 0 && now <= maxTaken; May(s) != may {
					t.Errorf("%s may be: %t, want %t", what, !may, may)
				}
			}
		}
	}
}

// long is a path of so many bytes.
func long(n int) string { return "/" + strings.Repeat("x", n-1) }

// P20.1: the sessions that the other tests go on from may be, and with each part alone made wrong they may not.
func TestMay(t *testing.T) {
	if !May(full()) {
		t.Fatal("the full one may not be")
	}
	if !conf.May(theConf()) {
		t.Fatal("the conf may not be")
	}
	for _, x := range []struct {
		what string
		is   bool
		how  func(*api.Sess)
	}{
		{"as it is", true, func(s *api.Sess) {}},
		{"ID -1", false, func(s *api.Sess) { s.ID = -1 }},
		{"ID the lowest", false, func(s *api.Sess) { s.ID = math.MinInt }},
		{"ID 0", true, func(s *api.Sess) { s.ID = 0 }},
		{"ID the greatest", true, func(s *api.Sess) { s.ID = math.MaxInt }},
		{"Peer none", true, func(s *api.Sess) { s.Peer = api.Host{} }},
		{"Up -2", false, func(s *api.Sess) { s.Up = -2 }},
		{"Up the lowest", false, func(s *api.Sess) { s.Up = math.MinInt }},
		{"L of no phase", false, func(s *api.Sess) { s.L.Phase = 8 }},
		{"L of phase -1", false, func(s *api.Sess) { s.L.Phase = -1 }},
		{"L of tenant 4", false, func(s *api.Sess) { s.L.Tenant = 4 }},
		{"L of tenant -2", false, func(s *api.Sess) { s.L.Tenant = -2 }},
		{"L of a user with a blank", false, func(s *api.Sess) { s.L.User = "m e" }},
		{"L of a user of 61 bytes", false, func(s *api.Sess) { s.L.User = strings.Repeat("u", 61) }},
		{"Pend -1", false, func(s *api.Sess) { s.O.Pend = -1 }},
		{"Pend 9", false, func(s *api.Sess) { s.O.Verb, s.O.Pend = "LIST", 9 }},
		{"a verb, and Pend 0", false, func(s *api.Sess) { s.O.Verb, s.O.Pend = "LIST", 0 }},
		{"Pend 1, and no verb", false, func(s *api.Sess) { s.O.Verb, s.O.Pend = "", 1 }},
		{"a verb that is none", false, func(s *api.Sess) { s.O.Verb, s.O.Pend = "SITE", 1 }},
		{"a verb of small letters", false, func(s *api.Sess) { s.O.Verb, s.O.Pend = "list", 1 }},
		{"From", true, func(s *api.Sess) { s.O.From = true }},
		{"Start -2", false, func(s *api.Sess) { s.O.Start = -2 }},
		{"Start 0", true, func(s *api.Sess) { s.O.Start = 0 }},
		{"Start 2^40", true, func(s *api.Sess) { s.O.Start = maxTaken }},
		{"Start 2^40 + 1", false, func(s *api.Sess) { s.O.Start = maxTaken + 1 }},
		{"Tel -1", false, func(s *api.Sess) { s.Tel = -1 }},
		{"Tel 1", true, func(s *api.Sess) { s.Tel = 1 }},
		{"Tel 2", true, func(s *api.Sess) { s.Tel = 2 }},
		{"Tel 3", false, func(s *api.Sess) { s.Tel = 3 }},
		{"Tel 255", false, func(s *api.Sess) { s.Tel = 255 }},
		{"Used -1", false, func(s *api.Sess) { s.Used = -1 }},
		{"Used 2^40", true, func(s *api.Sess) { s.Used = maxTaken }},
		{"Used 2^40 + 1", false, func(s *api.Sess) { s.Used = maxTaken + 1 }},
		{"Last -1", false, func(s *api.Sess) { s.Last = -1 }},
		{"Last 0", true, func(s *api.Sess) { s.Last = 0 }},
		{"Last 2^40", true, func(s *api.Sess) { s.Last = maxTaken }},
		{"Last 2^40 + 1", false, func(s *api.Sess) { s.Last = maxTaken + 1 }},
		{"Cwd no path", false, func(s *api.Sess) { s.Cwd = "a" }},
		{"Cwd with a slash behind it", false, func(s *api.Sess) { s.Cwd = "/a/" }},
		{"Cwd of two dots", false, func(s *api.Sess) { s.Cwd = "/.." }},
		{"Cwd of 201 bytes", false, func(s *api.Sess) { s.Cwd = long(201) }},
		{"Hold a path", true, func(s *api.Sess) { s.Hold = "/b" }},
		{"Hold the top", true, func(s *api.Sess) { s.Hold = "/" }},
		{"Hold of 200 bytes", true, func(s *api.Sess) { s.Hold = long(200) }},
		{"Hold of 201 bytes", false, func(s *api.Sess) { s.Hold = long(201) }},
		{"Hold no path", false, func(s *api.Sess) { s.Hold = "b" }},
		{"Hold a blank", false, func(s *api.Sess) { s.Hold = " " }},
		{"Hold of a byte that no path has", false, func(s *api.Sess) { s.Hold = "/\x7f" }},
		{"C of anything", true, func(s *api.Sess) {
			s.C = api.Framer{B: []byte(strings.Repeat("\x00\xff\r\n", 400)), Cr: true, Skip: true}
		}},
		{"S of anything", true, func(s *api.Sess) {
			s.S = api.Framer{B: []byte(strings.Repeat("\x00\xff\r\n", 400)), Cr: true, Skip: true}
		}},
		{"G of anything", true, func(s *api.Sess) { s.G = api.Gather{Code: -7, Lines: []string{"\xff", ""}, Open: true} }},
		{"G that is not open", true, func(s *api.Sess) { s.G = api.Gather{Code: 1000, Lines: make([]string, 50)} }},
	} {
		for _, phase := range phases {
			s := of(phase)
			x.how(&s)
			if May(s) != x.is {
				t.Errorf("%s, in phase %d: %t, want %t", x.what, phase, !x.is, x.is)
			}
		}
	}
}

// P20.1: Up is -1 just where the phase is NeedUser, Dialing or Gone.
func TestMayOfUp(t *testing.T) {
	for phase, up := range map[int]bool{atNeedUser: false, atDialing: false, atGreet: true, atUserSent: true, atNeedPass: true, atPassSent: true, atIn: true, atGone: false} {
		for _, n := range []int{-2, -1, 0, 1, 2, 3, math.MinInt, math.MaxInt} {
			s := of(phase)
			s.Up = n
			if want := n >= 0 && up || n == -1 && !up; May(s) != want {
				t.Errorf("phase %d, Up %d: %t, want %t", phase, n, !want, want)
			}
		}
	}
}

// P20.1: a session is somewhere just where it is in.
func TestMayOfCwd(t *testing.T) {
	for _, phase := range phases {
		for cwd, is := range map[string]bool{"": false, "/": true, "/a": true, "/a/b c": true, long(200): true, long(201): false, "a": false, "//": false, "/a/..": false, "/.": false, "/\n": false, " ": false} {
			s := of(phase)
			s.Cwd = cwd
			if want := phase == atIn && is || phase != atIn && cwd == ""; May(s) != want {
				t.Errorf("phase %d, Cwd %q: %t, want %t", phase, short(cwd), !want, want)
			}
		}
	}
}

// P20.1: with each verb under way, in each phase: just where the session is in, and with a Hold, if the directory changes.
func TestMayOfOrder(t *testing.T) {
	count := 0
	for _, v := range verb.All() {
		dir := v.Name == "CWD" || v.Name == "CDUP"
		for _, phase := range phases {
			for _, pend := range []int{1, 2, 8} {
				for hold, is := range map[string]bool{"": !dir, "/": true, "/b": true, "b": false, "/b/": false} {
					s := of(phase)
					s.O, s.Hold = busy(v.Name, pend), hold
					want := is && phase == atIn
					if May(s) != want {
						t.Errorf("%s, phase %d, Pend %d, Hold %q: %t, want %t", v.Name, phase, pend, hold, !want, want)
					}
					if want {
						count++
					}
				}
			}
		}
	}
	if count != 318 { // 36 verbs and 3 numbers, with 3 Holes each, but two of them with 2
		t.Errorf("%d may be, want 318", count)
	}
}

// others are sessions that differ from full in one part each.
func others() []api.Sess {
	var all []api.Sess
	for _, how := range []func(*api.Sess){
		func(s *api.Sess) { s.ID = 3 },
		func(s *api.Sess) { s.Up = 3 },
		func(s *api.Sess) { s.Up = -1 },
		func(s *api.Sess) { s.Peer[0]++ },
		func(s *api.Sess) { s.Peer[3]++ },
		func(s *api.Sess) { s.L.Phase++ },
		func(s *api.Sess) { s.L.Tenant++ },
		func(s *api.Sess) { s.L.User = "" },
		func(s *api.Sess) { s.O.Verb = "cwd" },
		func(s *api.Sess) { s.O.Pend++ },
		func(s *api.Sess) { s.O.From = false },
		func(s *api.Sess) { s.O.Start++ },
		func(s *api.Sess) { s.Cwd = "/b" },
		func(s *api.Sess) { s.Cwd = "" },
		func(s *api.Sess) { s.Hold = "/a" },
		func(s *api.Sess) { s.Hold = "" },
		func(s *api.Sess) { s.C.B = []byte("a") },
		func(s *api.Sess) { s.C.B = []byte("ac") },
		func(s *api.Sess) { s.C.B = []byte("abb") },
		func(s *api.Sess) { s.C.B = nil },
		func(s *api.Sess) { s.C.Cr = false },
		func(s *api.Sess) { s.C.Skip = true },
		func(s *api.Sess) { s.S.B = []byte("c") },
		func(s *api.Sess) { s.S.B = []byte("dc") },
		func(s *api.Sess) { s.S.B = []byte("cdd") },
		func(s *api.Sess) { s.S.B = nil },
		func(s *api.Sess) { s.S.Cr = true },
		func(s *api.Sess) { s.S.Skip = false },
		func(s *api.Sess) { s.C, s.S = s.S, s.C },
		func(s *api.Sess) { s.Tel++ },
		func(s *api.Sess) { s.G.Code++ },
		func(s *api.Sess) { s.G.Lines = []string{"x"} },
		func(s *api.Sess) { s.G.Lines = []string{"y", "x"} },
		func(s *api.Sess) { s.G.Lines = []string{"x", "y", ""} },
		func(s *api.Sess) { s.G.Lines = nil },
		func(s *api.Sess) { s.G.Open = false },
		func(s *api.Sess) { s.Used++ },
		func(s *api.Sess) { s.Last++ },
	} {
		all = append(all, changed(full(), how))
	}
	return all
}

// P20.1: two that differ in one part alone, or in two, are not the same.
func TestSame(t *testing.T) {
	all := append(others(), full(), api.Sess{})
	for _, phase := range []int{atNeedUser, atDialing, atGreet, atIn} {
		all = append(all, of(phase))
	}
	for i, a := range all {
		for j, b := range all {
			if Same(a, b) != (i == j) {
				t.Errorf("Same(%+v, %+v) = %t", a, b, i != j)
			}
		}
	}
	if !Same(full(), full()) {
		t.Error("one that is made twice is not the same")
	}
}

// P20.1, R6: a list without elements may be nil or empty.
func TestSameOfEmpty(t *testing.T) {
	a, b := of(atIn), of(atIn)
	b.C.B, b.S.B, b.G.Lines = []byte{}, []byte{}, []string{}
	if !Same(a, b) || !Same(b, a) || !Same(b, b) {
		t.Error("nil and empty are not the same")
	}
}

// P20.1: End of each phase, and with numbers of connections by which no session may be: what is shut, in which order, and every field behind it.
func TestEnd(t *testing.T) {
	for phase := -2; phase <= 9; phase++ {
		for _, id := range []int{1, 0, -1, math.MaxInt} {
			for _, up := range []int{-1, -2, math.MinInt, 0, 2, math.MaxInt} {
				s := full()
				s.ID, s.Up, s.L.Phase = id, up, phase
				u, out := End(s)
				what := fmt.Sprintf("End of phase %d, ID %d, Up %d", phase, id, up)
				switch {
				case phase == atGone:
					checkSess(t, what, u, s)
					checkOuts(t, what, out)
				case up < 0:
					checkSess(t, what, u, over(s))
					checkOuts(t, what, out, shut(id))
				default:
					checkSess(t, what, u, over(s))
					checkOuts(t, what, out, shut(id), shut(up))
				}
			}
		}
	}
}

// P20.1: of each session that may be, by hand; what is behind it may be, and is over.
func TestEndOfEachPhase(t *testing.T) {
	for phase, want := range map[int][]string{
		atNeedUser: {shut(1)}, atDialing: {shut(1)}, atGreet: {shut(1), shut(2)}, atUserSent: {shut(1), shut(2)},
		atNeedPass: {shut(1), shut(2)}, atPassSent: {shut(1), shut(2)}, atIn: {shut(1), shut(2)}, atGone: nil,
	} {
		u, out := End(of(phase))
		what := fmt.Sprintf("End of phase %d", phase)
		checkSess(t, what, u, api.Sess{ID: 1, Up: -1, Peer: me, L: api.Login{Phase: 7, Tenant: -1}, O: api.Order{Start: -1}, Last: 5})
		checkOuts(t, what, out, want...)
		v, out := End(u)
		checkSess(t, what+", again", v, u)
		checkOuts(t, what+", again", out)
		if !May(u) {
			t.Errorf("%s may not be", what)
		}
	}
}

// P20.4: each phase, and Ups from below to far above.
func TestDialed(t *testing.T) {
	for phase := -2; phase <= 9; phase++ {
		for _, up := range []int{-1, -2, math.MinInt, 0, 1, 2, 5, math.MaxInt} {
			s := of(phase)
			s.C, s.S, s.Tel, s.Used, s.Hold = api.Framer{B: []byte("ab"), Cr: true}, api.Framer{B: []byte("cd"), Skip: true}, 2, 3, "/h"
			s.G = api.Gather{Code: 220, Lines: []string{"x"}, Open: true}
			u, out := Dialed(s, up)
			what := fmt.Sprintf("Dialed of phase %d, %d", phase, up)
			switch {
			case phase != atDialing:
				checkSess(t, what, u, s)
				checkOuts(t, what, out)
			case up < 0:
				s.L = api.Login{Tenant: -1}
				checkSess(t, what, u, s)
				checkOuts(t, what, out, said("421 No server."))
			default:
				s.L.Phase, s.Up, s.S, s.G = atGreet, up, api.Framer{}, api.Gather{}
				checkSess(t, what, u, s)
				checkOuts(t, what, out)
			}
		}
	}
}

// P20.4: of a session that may not be nothing comes, though its server is asked.
func TestDialedOfNone(t *testing.T) {
	for _, how := range []func(*api.Sess){
		func(s *api.Sess) { s.ID = -1 },
		func(s *api.Sess) { s.Up = 2 },
		func(s *api.Sess) { s.L.Tenant = 4 },
		func(s *api.Sess) { s.O = busy("LIST", 1) },
		func(s *api.Sess) { s.Tel = 3 },
		func(s *api.Sess) { s.Used = -1 },
		func(s *api.Sess) { s.Last = maxTaken + 1 },
		func(s *api.Sess) { s.Cwd = "/" },
		func(s *api.Sess) { s.Hold = "x" },
	} {
		s := changed(of(atDialing), how)
		for _, up := range []int{-1, 0, 2} {
			u, out := Dialed(s, up)
			checkSess(t, "Dialed", u, s)
			checkOuts(t, "Dialed", out)
		}
	}
}

// wrong are sessions that are in and would go on, but for one part that may not be.
func wrong() []api.Sess {
	var all []api.Sess
	for _, how := range []func(*api.Sess){
		func(s *api.Sess) { s.ID = -1 },
		func(s *api.Sess) { s.Up = -1 },
		func(s *api.Sess) { s.Up = -2 },
		func(s *api.Sess) { s.L.User = "" },
		func(s *api.Sess) { s.L.Tenant = -1 },
		func(s *api.Sess) { s.L.Tenant = 4 },
		func(s *api.Sess) { s.L.Phase = atPassSent },
		func(s *api.Sess) { s.L.Phase = 8 },
		func(s *api.Sess) { s.O.Pend = 9 },
		func(s *api.Sess) { s.O.Start = -2 },
		func(s *api.Sess) { s.Cwd = "" },
		func(s *api.Sess) { s.Cwd = "a" },
		func(s *api.Sess) { s.Hold = "a" },
		func(s *api.Sess) { s.O = busy("CWD", 1) },
		func(s *api.Sess) { s.Tel = -1 },
		func(s *api.Sess) { s.Tel = 3 },
		func(s *api.Sess) { s.Used = -1 },
		func(s *api.Sess) { s.Last = -1 },
	} {
		all = append(all, changed(of(atIn), how))
	}
	return all
}

// wrongConfs are none, each by one part alone.
func wrongConfs() []api.Conf {
	var all []api.Conf
	for _, how := range []func(*api.Conf){
		func(c *api.Conf) { c.Pre = 0 },
		func(c *api.Conf) { c.Life = 0 },
		func(c *api.Conf) { c.Idle = maxTaken + 1 },
		func(c *api.Conf) { c.Tenants = nil },
		func(c *api.Conf) { c.Tenants = append(c.Tenants, c.Tenants...) },
		func(c *api.Conf) { c.Tenants[0].Name = "" },
		func(c *api.Conf) { c.Tenants[1].Low = 2002 },
		func(c *api.Conf) { c.Tenants[1].At.Port = 0 },
		func(c *api.Conf) { c.Tenants[1].Rules = []api.Rule{{Path: "x"}} },
	} {
		c := theConf()
		how(&c)
		all = append(all, c)
	}
	return all
}

// eachNone hands on what no line comes to anything in: sessions and confs that may not be, tenants beyond a conf's, and what is gone.
func eachNone(check func(what string, s api.Sess, c api.Conf)) {
	for i, s := range wrong() {
		check(fmt.Sprintf("wrong session %d", i), s, theConf())
	}
	for i, c := range wrongConfs() {
		for _, phase := range phases {
			check(fmt.Sprintf("wrong conf %d, phase %d", i, phase), of(phase), c)
		}
	}
	for _, phase := range phases[atDialing:atGone] {
		for _, tenant := range []int{2, 3} {
			s := of(phase)
			s.L.Tenant = tenant
			check(fmt.Sprintf("tenant %d, phase %d", tenant, phase), s, theConf())
		}
	}
	check("gone", of(atGone), theConf())
}
