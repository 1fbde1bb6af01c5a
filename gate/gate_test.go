package gate

import (
	"errors"
	"fmt"
	"math"
	"reflect"
	"slices"
	"testing"

	"wharfinger/api"
	"wharfinger/conf"
)

// The phases by the document's own order, so that a table by hand tells them.
const (
	atNeedUser, atDialing, atGreet, atUserSent, atNeedPass, atPassSent, atIn, atGone = 0, 1, 2, 3, 4, 5, 6, 7
)

// The events likewise.
const (
	anOpen, aBytes, aDialed, aCome, aClosed, aTick = 0, 1, 2, 3, 4, 5
)

// maxTaken is 2^40, which the document calls Max.
const maxTaken = 1099511627776

// Who is where in most tests: two clients, the gateway, and the servers of both tenants.
var (
	me      = api.Host{10, 0, 0, 1}
	you     = api.Host{10, 0, 0, 2}
	own     = api.Host{10, 0, 0, 9}
	serverA = api.Host{10, 1, 0, 1}
	serverB = api.Host{10, 2, 0, 1}
)

// idle is what is under way where nothing is, and nothing came ahead.
var idle = api.Order{Start: -1}

func busy(verb string) api.Order { return api.Order{Verb: verb, Pend: 1, Start: -1} }

// theConf is one of two tenants, of three ports and of one.
func theConf() api.Conf {
	return api.Conf{Own: own, Pre: 2, Life: 10, Idle: 50, Tenants: []api.Tenant{
		{Name: "a", Host: "ftp.a", At: api.End{Host: serverA, Port: 21}, Low: 2000, High: 2002, Sessions: 2, Holes: 3, Quota: 20, Each: 12,
			Rules: []api.Rule{{Verb: "STOR", Path: "/pub"}, {Allow: true, Path: "/"}}},
		{Name: "b", Host: "ftp.b", At: api.End{Host: serverB, Port: 2121}, Low: 3000, High: 3000, Sessions: 1, Holes: 1, Quota: 100, Each: 90,
			Rules: []api.Rule{{Allow: true, Path: "/"}}},
	}}
}

// of is a session in a phase, of a tenant, that came last at 5.
func of(phase, id, up, tenant int) api.Sess {
	s := api.Sess{ID: id, Up: up, Peer: me, L: api.Login{Phase: phase, Tenant: tenant, User: "me"}, O: idle, Last: 5}
	switch phase {
	case atNeedUser, atGone:
		s.L = api.Login{Phase: phase, Tenant: -1}
	case atIn:
		s.Cwd = "/"
	}
	return s
}

// The pinholes of theGate: of its client, of its server, and of another tenant's client.
var (
	pin     = api.Hole{Port: 2000, Sess: 1, Tenant: 0, Peer: me, To: api.End{Host: serverA, Port: 5000}, Dead: 9}
	back    = api.Hole{Port: 2001, Sess: 1, Tenant: 0, Peer: serverA, To: api.End{Host: me, Port: 6000}, Dead: 6}
	another = api.Hole{Port: 3000, Sess: 3, Tenant: 1, Peer: me, To: api.End{Host: serverB, Port: 7000}, Dead: 15}
)

// theGate is one in which there is something of all kinds: of two tenants a session that is in, and of both one ahead, as many as may be; at 5.
func theGate() api.Gate {
	first, second := of(atIn, 1, 2, 0), of(atIn, 3, 4, 1)
	first.Used, second.Used = 4, 6
	return api.Gate{
		C: theConf(), Now: 5,
		S:   []api.Sess{first, second, of(atDialing, 5, -1, 0), of(atGreet, 6, 7, 1)},
		H:   []api.Hole{pin, back, another},
		X:   []api.Link{{Sess: 1, A: 10, B: 11}, {Sess: 3, A: 13, B: -1}, {Sess: 1, A: 12, B: -1, Wait: [][]byte{[]byte("x"), []byte("yz")}}},
		All: []int{4, 6},
	}
}

// changed is theGate with something otherwise.
func changed(how ...func(*api.Gate)) api.Gate {
	g := theGate()
	for _, f := range how {
		f(&g)
	}
	return g
}

// roomAhead leaves one session less ahead.
func roomAhead(g *api.Gate) { g.S = g.S[:3] }

// bare leaves sessions alone.
func bare(g *api.Gate) { g.H, g.X = nil, nil }

// without are a list's elements but those at some places.
func without[T any](l []T, at ...int) []T {
	var left []T
	for i, x := range l {
		if !slices.Contains(at, i) {
			left = append(left, x)
		}
	}
	return left
}

// norm is a gateway in memory of its own, whose lists without elements are nil, so that all of its parts can be held against another one's.
func norm(g api.Gate) api.Gate {
	g.C.Tenants = slices.Clone(g.C.Tenants)
	for i, t := range g.C.Tenants {
		g.C.Tenants[i].Rules = append([]api.Rule(nil), t.Rules...)
	}
	g.S = append([]api.Sess(nil), g.S...)
	for i, s := range g.S {
		g.S[i].C.B = append([]byte(nil), s.C.B...)
		g.S[i].S.B = append([]byte(nil), s.S.B...)
		g.S[i].G.Lines = append([]string(nil), s.G.Lines...)
	}
	g.H = append([]api.Hole(nil), g.H...)
	g.X = append([]api.Link(nil), g.X...)
	for i, x := range g.X {
		g.X[i].Wait = nil
		for _, b := range x.Wait {
			g.X[i].Wait = append(g.X[i].Wait, append([]byte(nil), b...))
		}
	}
	g.All = append([]int(nil), g.All...)
	if len(g.C.Tenants) == 0 {
		g.C.Tenants = nil
	}
	return g
}

// alike tells of two gateways part by part, and of their confs, too.
func alike(a, b api.Gate) bool { return reflect.DeepEqual(norm(a), norm(b)) }

// What goes out, as tables by hand have it.
func sent(conn int, s string) string    { return fmt.Sprintf("%d<%s", conn, s) }
func said(conn int, line string) string { return sent(conn, line+"\r\n") }
func shut(conn int) string              { return fmt.Sprintf("shut %d", conn) }
func dial(conn int, e api.End) string   { return fmt.Sprintf("dial %d %v", conn, e) }
func list(l ...string) []string         { return l }
func shuts(conns ...int) (l []string) {
	for _, c := range conns {
		l = append(l, shut(c))
	}
	return l
}

// texts are what goes out, one by one, with all that has no meaning there if it is told no less.
func texts(l []api.Out) []string {
	var all []string
	for _, o := range l {
		s := fmt.Sprintf("%+v", o)
		switch {
		case o.Kind == 0 && o.To == api.End{}:
			s = sent(o.Conn, string(o.B))
		case o.Kind == 1 && o.To == api.End{} && len(o.B) == 0:
			s = shut(o.Conn)
		case o.Kind == 2 && len(o.B) == 0:
			s = dial(o.Conn, o.To)
		}
		all = append(all, s)
	}
	return all
}

// show is a gateway as a test tells it, without its conf.
func show(g api.Gate) string {
	s := fmt.Sprintf("{at %d, %v", g.Now, g.All)
	for _, x := range g.S {
		s += fmt.Sprintf("\n\t%+v", x)
	}
	for _, x := range g.H {
		s += fmt.Sprintf("\n\t%+v", x)
	}
	for _, x := range g.X {
		s += fmt.Sprintf("\n\t%+v", x)
	}
	return s + "}"
}

func checkGate(t *testing.T, what string, g, want api.Gate) {
	t.Helper()
	if !alike(g, want) {
		t.Errorf("%s: gateway %s, want %s", what, show(g), show(want))
	}
}

func checkOuts(t *testing.T, what string, l []api.Out, want ...string) {
	t.Helper()
	if !slices.Equal(texts(l), want) {
		t.Errorf("%s: out %q, want %q", what, texts(l), want)
	}
}

// checkDo holds an event without an error against what is wanted, and against P22.4: what may be stays so.
func checkDo(t *testing.T, what string, g api.Gate, e api.Ev, want api.Gate, out ...string) {
	t.Helper()
	next, l, no := Do(g, e)
	if no != 0 {
		t.Errorf("%s: error %d", what, no)
		return
	}
	checkGate(t, what, next, want)
	checkOuts(t, what, l, out...)
	if !May(next) {
		t.Errorf("%s: %s may not be", what, show(next))
	}
}

// checkNo holds an event to an error, and to nothing beside it.
func checkNo(t *testing.T, what string, g api.Gate, e api.Ev, want api.Errno) {
	t.Helper()
	next, out, no := Do(g, e)
	if no != want {
		t.Errorf("%s: error %d, want %d", what, no, want)
	}
	if !reflect.DeepEqual(norm(next), api.Gate{}) || len(out) != 0 {
		t.Errorf("%s: beside error %d %s and %q", what, no, show(next), texts(out))
	}
}

// tenants is a conf of that many tenants that may be.
func tenants(n int) api.Conf {
	c := theConf()
	c.Tenants = nil
	for i := range n {
		name := string(rune('a' + i))
		c.Tenants = append(c.Tenants, api.Tenant{Name: name, Host: "ftp." + name, At: api.End{Host: serverA, Port: 21}, Low: 2000 + 10*i, High: 2009 + 10*i, Sessions: 1, Holes: 1})
	}
	return c
}

// P22.1: of a conf that may be, however many tenants it has.
func TestNew(t *testing.T) {
	confs := []api.Conf{theConf(), tenants(1), tenants(2), tenants(3), tenants(4)}
	lf := theConf()
	lf.Lf, lf.Pre, lf.Life, lf.Idle = true, 8, maxTaken, 1
	for i, c := range append(confs, lf) {
		g, err := New(c)
		if err != nil {
			t.Errorf("New %d: %v", i, err)
		}
		checkGate(t, fmt.Sprintf("New %d", i), g, api.Gate{C: c, All: make([]int, len(c.Tenants))})
		if !May(g) || len(g.All) != len(c.Tenants) {
			t.Errorf("New %d: %s may not be", i, show(g))
		}
	}
}

// wrongConfs are confs that may not be, by why not.
func wrongConfs() map[error][]api.Conf {
	with := func(how func(*api.Conf)) api.Conf {
		c := theConf()
		how(&c)
		return c
	}
	return map[error][]api.Conf{
		api.ErrConf: {
			{}, with(func(c *api.Conf) { c.Pre = 0 }), with(func(c *api.Conf) { c.Pre = 9 }), with(func(c *api.Conf) { c.Life = 0 }), with(func(c *api.Conf) { c.Life = maxTaken + 1 }),
			with(func(c *api.Conf) { c.Idle = 0 }), with(func(c *api.Conf) { c.Idle = maxTaken + 1 }), tenants(0), tenants(5),
			with(func(c *api.Conf) { c.Idle, c.Tenants[0].Name, c.Tenants[1].Low = 0, "", 0 }),
		},
		api.ErrTenant: {
			with(func(c *api.Conf) { c.Tenants[0].Name = "" }), with(func(c *api.Conf) { c.Tenants[1].Host = "ftp.a" }), with(func(c *api.Conf) { c.Tenants[0].Host = "FTP.A" }), with(func(c *api.Conf) { c.Tenants[1].Sessions = 0 }),
			with(func(c *api.Conf) { c.Tenants[1].Holes = 9 }), with(func(c *api.Conf) { c.Tenants[0].Quota = -1 }), with(func(c *api.Conf) { c.Tenants[0].Each = maxTaken + 1 }), with(func(c *api.Conf) { c.Tenants[1].At.Port = 0 }),
			with(func(c *api.Conf) { c.Tenants[0].Rules[0].Path = "pub" }), with(func(c *api.Conf) { c.Tenants[0].Rules[0].Verb, c.Tenants[1].Low = "stor", 0 }),
		},
		api.ErrPorts: {
			with(func(c *api.Conf) { c.Tenants[0].Low = 1023 }), with(func(c *api.Conf) { c.Tenants[1].High = 65536 }), with(func(c *api.Conf) { c.Tenants[1].Low = 3001 }), with(func(c *api.Conf) { c.Tenants[1].Low, c.Tenants[1].High = 2002, 2002 }),
			with(func(c *api.Conf) { c.Tenants[0].Low, c.Tenants[1].Name = 1023, "" }),
		},
	}
}

// P22.1: of one that may not be, the error is conf's own, and there is nothing beside it.
func TestNewOfNone(t *testing.T) {
	for why, confs := range wrongConfs() {
		for i, c := range confs {
			what := fmt.Sprintf("New %d, %v", i, why)
			g, err := New(c)
			if err == nil {
				t.Errorf("%s: no error", what)
				continue
			}
			for _, one := range []error{api.ErrConf, api.ErrTenant, api.ErrPorts} {
				if errors.Is(err, one) != (one == why) {
					t.Errorf("%s: %v", what, err)
				}
			}
			if err.Error() != conf.Check(c).Error() {
				t.Errorf("%s: %q, and conf tells %q", what, err, conf.Check(c))
			}
			if !reflect.DeepEqual(norm(g), api.Gate{}) || May(g) {
				t.Errorf("%s: beside it %+v", what, g)
			}
		}
	}
}

// part is one that is otherwise, and what that is.
type part struct {
	what string
	how  func(*api.Gate)
}

// mayBe are gateways at the edges of what may be.
var mayBe = []part{
	{"as it is", func(g *api.Gate) {}},
	{"at 0", func(g *api.Gate) { g.Now = 0 }},
	{"one tick ahead of a pinhole", func(g *api.Gate) { g.Now = 5; g.H[1].Dead = 6 }},
	{"at the last time", func(g *api.Gate) { g.Now = maxTaken }},
	{"at the last time, of a pinhole that is over long since", func(g *api.Gate) { g.Now, g.H[0].Dead, g.H[1].Dead = maxTaken, 0, maxTaken }},
	{"one ahead of the last time", func(g *api.Gate) {
		g.Now = maxTaken - 1
		for i := range g.H {
			g.H[i].Dead = maxTaken
		}
	}},
	{"all of nothing", func(g *api.Gate) { g.All = []int{0, 0} }},
	{"all of the most", func(g *api.Gate) { g.All = []int{maxTaken, maxTaken} }},
	{"more used than may be", func(g *api.Gate) { g.S[0].Used, g.All[0] = maxTaken, 77 }},
	{"no sessions", func(g *api.Gate) { g.S, g.H, g.X = nil, nil, nil }},
	{"nobody ahead", func(g *api.Gate) { g.S = g.S[:2] }},
	{"nobody in", func(g *api.Gate) { g.S, g.H, g.X = g.S[2:], nil, nil }},
	{"two of a tenant that may have two", func(g *api.Gate) { g.S = append(g.S, of(atIn, 20, 21, 0)) }},
	{"ahead of being a tenant's", func(g *api.Gate) { g.S[2] = of(atNeedUser, 5, -1, -1) }},
	{"ahead, of the last tenant", func(g *api.Gate) { g.S[2] = of(atPassSent, 5, 25, 1) }},
	{"three pinholes of a tenant that may have three", func(g *api.Gate) { g.H = append(g.H, pin); g.H[3].Port = 2002 }},
	{"a pinhole of a port that is none of the tenant's", func(g *api.Gate) { g.H[0].Port = 9999 }},
	{"no pinholes", func(g *api.Gate) { g.H = nil }},
	{"no links", func(g *api.Gate) { g.X = nil }},
	{"as many chunks as may wait", func(g *api.Gate) { g.X[1].Wait = [][]byte{{1}, {2}, {3}, {4}} }},
	{"two links of the other session", func(g *api.Gate) { g.X = append(g.X, api.Link{Sess: 3, A: 30, B: 31}) }},
	{"connection 0", func(g *api.Gate) { g.S[3].Up = 0 }},
	{"the greatest connections", func(g *api.Gate) {
		g.S[3].ID, g.S[3].Up, g.X[0].A, g.X[0].B = math.MaxInt, math.MaxInt-1, math.MaxInt-2, math.MaxInt-3
	}},
}

// mayNotBe are gateways of which one part alone may not be.
var mayNotBe = []part{
	{"nothing", func(g *api.Gate) { *g = api.Gate{} }},
	{"conf: Idle", func(g *api.Gate) { g.C.Idle = 0 }},
	{"conf: Life", func(g *api.Gate) { g.C.Life = -1 }},
	{"conf: Pre above what may be", func(g *api.Gate) { g.C.Pre = 9 }},
	{"conf: a tenant", func(g *api.Gate) { g.C.Tenants[1].Name = "" }},
	{"conf: Sessions above what may be", func(g *api.Gate) { g.C.Tenants[0].Sessions = 9 }},
	{"conf: Holes above what may be", func(g *api.Gate) { g.C.Tenants[1].Holes = 9 }},
	{"conf: its ports", func(g *api.Gate) { g.C.Tenants[1].Low = 2002 }},
	{"Now below 0", func(g *api.Gate) { g.Now = -1 }},
	{"Now the least number", func(g *api.Gate) { g.Now = math.MinInt }},
	{"Now above the greatest one", func(g *api.Gate) { g.Now, g.H = maxTaken+1, nil }},
	{"Now the greatest number of all", func(g *api.Gate) { g.Now, g.H = math.MaxInt, nil }},
	{"All of none", func(g *api.Gate) { g.All = nil }},
	{"All of one too few", func(g *api.Gate) { g.All = g.All[:1] }},
	{"All of one too many", func(g *api.Gate) { g.All = append(g.All, 0) }},
	{"All of one below 0", func(g *api.Gate) { g.All[0] = -1 }},
	{"All of another one below 0", func(g *api.Gate) { g.All[1] = -1 }},
	{"All of one too great", func(g *api.Gate) { g.All[1] = maxTaken + 1 }},
	{"a session's ID below 0", func(g *api.Gate) { g.S[2].ID = -1 }},
	{"a session's Up below -1", func(g *api.Gate) { g.S[2].Up = -2 }},
	{"a session that is in, without a server", func(g *api.Gate) { g.S[0].Up = -1 }},
	{"a session's Tel", func(g *api.Gate) { g.S[1].Tel = 3 }},
	{"a session's Used", func(g *api.Gate) { g.S[1].Used = -1 }},
	{"a session's Last", func(g *api.Gate) { g.S[3].Last = maxTaken + 1 }},
	{"a session's Cwd", func(g *api.Gate) { g.S[0].Cwd = "" }},
	{"a session's Hold", func(g *api.Gate) { g.S[0].Hold = "x" }},
	{"a session's order", func(g *api.Gate) { g.S[0].O.Pend = 1 }},
	{"a session's user", func(g *api.Gate) { g.S[3].L.User = "" }},
	{"a session's Tenant is none", func(g *api.Gate) { g.S[2].L.Tenant = 2 }},
	{"the Tenant of one that is in is none", func(g *api.Gate) { g.S = append(g.S, of(atIn, 20, 21, 2)) }},
	{"a session's Tenant is the last one that a login may have", func(g *api.Gate) { g.S[3].L.Tenant = 3 }},
	{"a session is gone", func(g *api.Gate) { g.S[2] = of(atGone, 5, -1, -1) }},
	{"the last session is gone", func(g *api.Gate) { g.S[3] = of(atGone, 6, -1, -1) }},
	{"one too many ahead", func(g *api.Gate) { g.S = append(g.S, of(atNeedUser, 20, -1, -1)) }},
	{"one too many ahead, by Pre", func(g *api.Gate) { g.C.Pre = 1 }},
	{"one too many of the first tenant", func(g *api.Gate) { g.S = append(g.S, of(atIn, 20, 21, 0), of(atIn, 22, 23, 0)) }},
	{"one too many of the last tenant", func(g *api.Gate) { g.S = append(g.S, of(atIn, 20, 21, 1)) }},
	{"a pinhole's Port too small", func(g *api.Gate) { g.H[0].Port = 1023 }},
	{"a pinhole's Port too great", func(g *api.Gate) { g.H[2].Port = 65536 }},
	{"where a pinhole leads", func(g *api.Gate) { g.H[1].To.Port = 1023 }},
	{"a pinhole's Dead too great", func(g *api.Gate) { g.H[0].Dead = maxTaken + 1 }},
	{"a pinhole's Dead below 0 at the last time", func(g *api.Gate) { g.Now, g.H[0].Dead = maxTaken, -1 }},
	{"a pinhole of no session", func(g *api.Gate) { g.H[0].Sess = 99 }},
	{"a pinhole of a server's connection", func(g *api.Gate) { g.H[0].Sess = 2 }},
	{"a pinhole of one that is asked for", func(g *api.Gate) { g.H[0].Sess = 5 }},
	{"a pinhole of one ahead that has a server", func(g *api.Gate) { g.H[2].Sess = 6 }},
	{"a pinhole of another tenant's session", func(g *api.Gate) { g.H = g.H[:1]; g.H[0].Sess = 3 }},
	{"a pinhole of another tenant", func(g *api.Gate) { g.H = g.H[:1]; g.H[0].Tenant = 1 }},
	{"a pinhole of a tenant that is none", func(g *api.Gate) { g.H[0].Tenant = 2 }},
	{"two of one port", func(g *api.Gate) { g.H[1].Port = 2000 }},
	{"two of one port, of two tenants", func(g *api.Gate) { g.H[2].Port = 2000 }},
	{"two of one port, behind each other", func(g *api.Gate) { g.H[2].Port = 2001 }},
	{"one pinhole too many of the first tenant", func(g *api.Gate) { g.H = append(g.H, pin, pin); g.H[3].Port, g.H[4].Port = 2002, 2003 }},
	{"one pinhole too many of the last tenant", func(g *api.Gate) { g.H = append(g.H, another); g.H[3].Port = 3001 }},
	{"a pinhole is over just now", func(g *api.Gate) { g.H[1].Dead = 5 }},
	{"a pinhole is over since long", func(g *api.Gate) { g.H[2].Dead = 0 }},
	{"a pinhole is over one ahead of the last time", func(g *api.Gate) {
		g.Now, g.H = maxTaken-1, g.H[:1]
		g.H[0].Dead = maxTaken - 1
	}},
	{"a link's A", func(g *api.Gate) { g.X[1].A = -1 }},
	{"a link's B", func(g *api.Gate) { g.X[1].B = -2 }},
	{"a link of one connection", func(g *api.Gate) { g.X[1].B = 13 }},
	{"an empty chunk that waits", func(g *api.Gate) { g.X[2].Wait[0] = nil }},
	{"one too many that waits", func(g *api.Gate) { g.X[1].Wait = [][]byte{{1}, {2}, {3}, {4}, {5}} }},
	{"one waits, and there is somebody", func(g *api.Gate) { g.X[2].B = 40 }},
	{"a link of no session", func(g *api.Gate) { g.X[0].Sess = 99 }},
	{"a link of a server's connection", func(g *api.Gate) { g.X[0].Sess = 2 }},
	{"a link of one that is asked for", func(g *api.Gate) { g.X[1].Sess = 5 }},
	{"a link of one ahead that has a server", func(g *api.Gate) { g.X[2].Sess = 6 }},
	{"three links of the first session", func(g *api.Gate) { g.X = append(g.X, api.Link{Sess: 1, A: 30, B: 31}) }},
	{"three links of another session", func(g *api.Gate) { g.X = append(g.X, api.Link{Sess: 3, A: 30, B: 31}, api.Link{Sess: 3, A: 32, B: -1}) }},
}

// P22.1: each part alone, at the edges of what may be, and beyond.
func TestMay(t *testing.T) {
	for _, x := range mayBe {
		if !May(changed(x.how)) {
			t.Errorf("%s: it may not be", x.what)
		}
	}
	for _, x := range mayNotBe {
		if May(changed(x.how)) {
			t.Errorf("%s: it may be", x.what)
		}
	}
}

// places are all the numbers of connections in a gateway, with their names; those that are none are left out.
func places(g *api.Gate) ([]*int, []string) {
	var all []*int
	var names []string
	add := func(n *int, what string, i int) {
		if *n >= 0 {
			all, names = append(all, n), append(names, fmt.Sprint(what, i))
		}
	}
	for i := range g.S {
		add(&g.S[i].ID, "ID", i)
		add(&g.S[i].Up, "Up", i)
	}
	for i := range g.X {
		add(&g.X[i].A, "A", i)
		add(&g.X[i].B, "B", i)
	}
	return all, names
}

// P22.1: any two connections that are one and the same, of which nothing else is told; and -1 is none, however often it stands.
func TestUsedTwice(t *testing.T) {
	linksOfOne := func(g *api.Gate) {
		g.H = nil
		g.X = []api.Link{{Sess: 1, A: 10, B: 11}, {Sess: 1, A: 12, B: 13}}
		g.S[2] = of(atUserSent, 5, 8, 0)
	}
	g := changed(linksOfOne)
	all, names := places(&g)
	if !May(g) || len(all) != 12 {
		t.Fatal(show(g))
	}
	for i := range all {
		for j := range i {
			g := changed(linksOfOne)
			all, _ := places(&g)
			// The former one's number stays, as links are of the first ID; the latter one's is of nobody else.
			*all[i] = *all[j]
			if May(g) {
				t.Errorf("%s is %s, and may be", names[i], names[j])
			}
			*all[i] = 1000
			if !May(g) {
				t.Errorf("%s is 1000, and may not be", names[i])
			}
		}
	}
	many := changed(func(g *api.Gate) {
		g.S[3] = of(atNeedUser, 6, -1, -1)
		g.X = []api.Link{{Sess: 1, A: 10, B: -1}, {Sess: 1, A: 12, B: -1}, {Sess: 3, A: 13, B: -1}, {Sess: 3, A: 14, B: -1}}
	})
	if !May(many) {
		t.Error("-1 is used twice")
	}
}

// others are gateways that differ from theGate in one part alone.
var others = []part{
	{"Now", func(g *api.Gate) { g.Now = 4 }},
	{"All, at one place", func(g *api.Gate) { g.All[0] = 5 }},
	{"All, at another one", func(g *api.Gate) { g.All[1] = 0 }},
	{"All, one more", func(g *api.Gate) { g.All = append(g.All, 0) }},
	{"All, one less", func(g *api.Gate) { g.All = g.All[:1] }},
	{"one session more", func(g *api.Gate) { g.S = append(g.S, g.S[0]) }},
	{"one session less", func(g *api.Gate) { g.S = g.S[:3] }},
	{"sessions in another order", func(g *api.Gate) { g.S[0], g.S[1] = g.S[1], g.S[0] }},
	{"a session's ID", func(g *api.Gate) { g.S[3].ID = 60 }},
	{"a session's Up", func(g *api.Gate) { g.S[0].Up = 60 }},
	{"a session's Peer", func(g *api.Gate) { g.S[0].Peer = you }},
	{"a session's user", func(g *api.Gate) { g.S[1].L.User = "you" }},
	{"a session's order", func(g *api.Gate) { g.S[1].O = busy("LIST") }},
	{"a session's Cwd", func(g *api.Gate) { g.S[0].Cwd = "/a" }},
	{"a session's Hold", func(g *api.Gate) { g.S[0].Hold = "/a" }},
	{"a session's C", func(g *api.Gate) { g.S[0].C.B = []byte("x") }},
	{"a session's S", func(g *api.Gate) { g.S[0].S.Cr = true }},
	{"a session's Tel", func(g *api.Gate) { g.S[0].Tel = 1 }},
	{"a session's G", func(g *api.Gate) { g.S[0].G = api.Gather{Code: 220, Lines: []string{"x"}, Open: true} }},
	{"a session's Used", func(g *api.Gate) { g.S[0].Used = 5 }},
	{"a session's Last", func(g *api.Gate) { g.S[3].Last = 4 }},
	{"one pinhole more", func(g *api.Gate) { g.H = append(g.H, pin) }},
	{"one pinhole less", func(g *api.Gate) { g.H = g.H[:2] }},
	{"pinholes in another order", func(g *api.Gate) { g.H[0], g.H[1] = g.H[1], g.H[0] }},
	{"a pinhole's Port", func(g *api.Gate) { g.H[0].Port = 2002 }},
	{"a pinhole's Peer", func(g *api.Gate) { g.H[1].Peer = you }},
	{"where a pinhole leads", func(g *api.Gate) { g.H[2].To.Port = 5001 }},
	{"a pinhole's Dead", func(g *api.Gate) { g.H[2].Dead = 14 }},
	{"a pinhole's Sess", func(g *api.Gate) { g.H[2].Sess = 1 }},
	{"a pinhole's Tenant", func(g *api.Gate) { g.H[2].Tenant = 0 }},
	{"one link more", func(g *api.Gate) { g.X = append(g.X, g.X[0]) }},
	{"one link less", func(g *api.Gate) { g.X = g.X[:2] }},
	{"links in another order", func(g *api.Gate) { g.X[0], g.X[1] = g.X[1], g.X[0] }},
	{"a link's Sess", func(g *api.Gate) { g.X[0].Sess = 3 }},
	{"a link's A", func(g *api.Gate) { g.X[2].A = 60 }},
	{"a link's B", func(g *api.Gate) { g.X[0].B = -1 }},
	{"what waits", func(g *api.Gate) { g.X[2].Wait[1] = []byte("yx") }},
	{"how much waits", func(g *api.Gate) { g.X[2].Wait = g.X[2].Wait[:1] }},
}

func checkSame(t *testing.T, what string, a, b api.Gate, want bool) {
	t.Helper()
	if Same(a, b) != want || Same(b, a) != want {
		t.Errorf("%s: Same is %t, want %t", what, !want, want)
	}
}

// P22.1: each part alone, but for C.
func TestSame(t *testing.T) {
	checkSame(t, "itself", theGate(), theGate(), true)
	checkSame(t, "nothing", api.Gate{}, api.Gate{}, true)
	checkSame(t, "nothing, and something", api.Gate{}, theGate(), false)
	for _, x := range others {
		checkSame(t, x.what, theGate(), changed(x.how), false)
		checkSame(t, x.what+", both", changed(x.how), changed(x.how), true)
		checkSame(t, x.what+", and another conf", changed(x.how), changed(x.how, func(g *api.Gate) { g.C.Idle = 7 }), true)
	}
	for _, confs := range wrongConfs() {
		for i, c := range append(confs, tenants(2)) {
			checkSame(t, fmt.Sprint("conf ", i), theGate(), changed(func(g *api.Gate) { g.C = c }), true)
		}
	}
	none := api.Gate{S: []api.Sess{}, H: []api.Hole{}, X: []api.Link{}, All: []int{}}
	checkSame(t, "nil and empty", none, api.Gate{}, true)
	empty := func(g *api.Gate) {
		g.S[0].C.B, g.S[1].S.B, g.S[2].G.Lines = []byte{}, []byte{}, []string{}
		g.X[0].Wait, g.X[1].Wait = [][]byte{}, [][]byte{}
	}
	checkSame(t, "nil and empty within", changed(empty), theGate(), true)
	if !May(changed(empty)) {
		t.Error("with empty lists it may not be")
	}
}
