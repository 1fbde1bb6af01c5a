package audit

import (
	"bytes"
	"fmt"
	"math/rand"
	"slices"
	"strings"
	"testing"

	"wharfinger/api"
	"wharfinger/ext"
	"wharfinger/gate"
	"wharfinger/six"
)

// The events, by the document's own order.
const (
	anOpen, aBytes, aDialed, aCome, aClosed, aTick = 0, 1, 2, 3, 4, 5
)

// Who is where: clients, the gateway, and the servers of three tenants.
var (
	me      = api.Host{10, 0, 0, 1}
	you     = api.Host{10, 0, 0, 2}
	own     = api.Host{10, 0, 0, 9}
	serverA = api.Host{10, 1, 0, 1}
	serverB = api.Host{10, 2, 0, 1}
	serverC = api.Host{10, 3, 0, 1}
)

// theConf is one of three tenants, of three ports, of one and of two.
func theConf() api.Conf {
	all := api.Rule{Allow: true, Path: "/"}
	return api.Conf{Own: own, Pre: 3, Life: 10, Idle: 50, Tenants: []api.Tenant{
		{Name: "a", Host: "ftp.a", At: api.End{Host: serverA, Port: 21}, Low: 2000, High: 2002, Sessions: 2, Holes: 2, Quota: 1 << 30, Each: 1 << 20,
			Rules: []api.Rule{{Verb: "STOR", Path: "/pub"}, all}},
		{Name: "b", Host: "ftp.b", At: api.End{Host: serverB, Port: 2121}, Low: 3000, High: 3000, Sessions: 2, Holes: 1, Quota: 1 << 30, Each: 1 << 20, Rules: []api.Rule{all}},
		{Name: "c", Host: "ftp.c", At: api.End{Host: serverC, Port: 990}, Low: 4000, High: 4001, Sessions: 2, Holes: 3, Quota: 1 << 30, Each: 1 << 20, Rules: []api.Rule{all}},
	}}
}

func bytesOn(conn int, s string) api.Ev {
	return api.Ev{Kind: aBytes, Conn: conn, B: []byte(s)}
}

func dialed(conn, up int) api.Ev {
	return api.Ev{Kind: aDialed, Conn: conn, Port: up, Up: true}
}

func comes(conn int, host api.Host, port int) api.Ev {
	return api.Ev{Kind: aCome, Conn: conn, Host: host, Port: port}
}

func closes(conn int) api.Ev { return api.Ev{Kind: aClosed, Conn: conn} }

// play is a gateway, with all that happened and went out from its beginning on.
type play struct {
	t        *testing.T
	begun, g api.Gate
	l        []api.Ev
	out      []api.Out
}

func newPlay(t *testing.T, c api.Conf) *play {
	t.Helper()
	g, err := gate.New(c)
	if err != nil {
		t.Fatal(err)
	}
	return &play{t: t, begun: g, g: g}
}

// do is one event without an error, and answers what goes out.
func (p *play) do(e api.Ev) []api.Out {
	p.t.Helper()
	g, l, no := gate.Do(p.g, e)
	if no != 0 {
		p.t.Fatalf("%+v: error %d", e, no)
	}
	p.g, p.l, p.out = g, append(p.l, e), append(p.out, l...)
	return l
}

// told is one event of which one connection, and no other one, is sent something.
func (p *play) told(e api.Ev, conn int, want string) {
	p.t.Helper()
	l := p.do(e)
	if b := Sent(l, conn); string(b) != want || len(l) != 1 {
		p.t.Fatalf("%+v: %+v goes out, want %q to %d", e, l, want, conn)
	}
}

// silent is one event of which nothing goes out.
func (p *play) silent(e api.Ev) {
	p.t.Helper()
	if l := p.do(e); len(l) != 0 {
		p.t.Fatalf("%+v: %+v goes out", e, l)
	}
}

// only is the one thing that goes out, its bytes left out.
func (p *play) only(e api.Ev) api.Out {
	p.t.Helper()
	l := p.do(e)
	if len(l) != 1 {
		p.t.Fatalf("%+v: %+v goes out", e, l)
	}
	l[0].B = nil
	return l[0]
}

// carrier is who has a file carried, and how: by which verb an end is told, and from the client to the server, or back.
type carrier struct {
	p              *play
	tenant, id, a  int
	peer           api.Host
	verb           string
	stores         bool
	file           []byte
	cuts           [][]byte
	ahead          int
	port, from, to int
}

// up, and b, are the connections behind the client's, and behind who came.
func (c *carrier) up() int { return c.id + 1 }
func (c *carrier) b() int  { return c.a + 1 }

// at is where the tenant's server is, and end is what who listens tells.
func (c *carrier) at() api.Host { return c.p.g.C.Tenants[c.tenant].At.Host }

func (c *carrier) isPoint() bool { return c.verb == "PORT" || c.verb == "EPRT" }

func (c *carrier) end() api.End {
	if c.isPoint() {
		return api.End{Host: c.peer, Port: 5000 + c.id}
	}
	return api.End{Host: c.at(), Port: 6000 + c.id}
}

// enter are the steps by which the client comes to be in.
func (c *carrier) enter() []func() {
	host := c.p.g.C.Tenants[c.tenant].Host
	return []func(){
		func() { c.p.told(api.Ev{Kind: anOpen, Conn: c.id, Host: c.peer}, c.id, "220 Ready.\r\n") },
		func() {
			o := c.p.only(bytesOn(c.id, "USER me@x@"+host+"\r\n"))
			if o.Kind != aDial || o.Conn != c.id || o.To != c.p.g.C.Tenants[c.tenant].At {
				c.p.t.Fatalf("USER: %+v", o)
			}
		},
		func() { c.p.silent(dialed(c.id, c.up())) },
		func() { c.p.told(bytesOn(c.up(), "220-hi\r\n220 you\r\n"), c.up(), "USER me@x\r\n") },
		func() { c.p.told(bytesOn(c.up(), "331 so?\r\n"), c.id, "331 so?\r\n") },
		func() { c.p.told(bytesOn(c.id, "pass a b\r\n"), c.up(), "PASS a b\r\n") },
		func() { c.p.told(bytesOn(c.up(), "230 in\r\n"), c.id, "230 in\r\n") },
	}
}

// finds is the port that is told on, at the gateway's own address.
func (c *carrier) finds(text string) {
	c.p.t.Helper()
	text = strings.TrimSuffix(text, "\r\n")
	e, is := api.End{}, false
	switch c.verb {
	case "PORT":
		e, is = six.Read(strings.TrimPrefix(text, "PORT "))
	case "EPRT":
		var no api.Errno
		e, no = ext.Read(strings.TrimPrefix(text, "EPRT "))
		is = no == 0
	case "PASV":
		e, is = six.Find(text)
	case "EPSV":
		e.Port, is = ext.Find(text)
		e.Host = own
	}
	x := c.p.g.C.Tenants[c.tenant]
	if !is || e.Host != own || e.Port < x.Low || e.Port > x.High {
		c.p.t.Fatalf("%s: %q is told", c.verb, text)
	}
	c.port = e.Port
}

// point are the steps by which the client tells where the server is to come.
func (c *carrier) point() []func() {
	arg, _ := six.Text(c.end())
	if c.verb == "EPRT" {
		arg, _ = ext.Text(c.end())
	}
	return []func(){
		func() { c.finds(string(Sent(c.p.do(bytesOn(c.id, c.verb+" "+arg+"\r\n")), c.up()))) },
		func() { c.p.told(bytesOn(c.up(), "200 ok\r\n"), c.id, "200 ok\r\n") },
	}
}

// listen are those by which the server tells where the client is to come.
func (c *carrier) listen() []func() {
	text, _ := six.Text(c.end())
	text = "227 Entering Passive Mode (" + text + ")\r\n"
	if c.verb == "EPSV" {
		text = fmt.Sprintf("229 Entering (|||%d|)\r\n", c.end().Port)
	}
	return []func(){
		func() { c.p.told(bytesOn(c.id, c.verb+"\r\n"), c.up(), c.verb+"\r\n") },
		func() { c.finds(string(Sent(c.p.do(bytesOn(c.up(), text)), c.id))) },
	}
}

// comes is who is waited for; a second one, and one of elsewhere, is not let through.
func (c *carrier) comes() {
	peer, other := c.peer, c.at()
	if c.isPoint() {
		peer, other = other, peer
	}
	wrong := []api.Ev{comes(c.a, other, c.port), comes(c.a, own, c.port), comes(c.a, peer, c.port+10), comes(c.a, peer, c.port-10)}
	shut := api.Out{Kind: aShut, Conn: c.a}
	for _, e := range wrong {
		if o := c.p.only(e); o.Kind != shut.Kind || o.Conn != shut.Conn {
			c.p.t.Fatalf("%+v: %+v", e, o)
		}
	}
	o := c.p.only(comes(c.a, peer, c.port))
	if o.Kind != aDial || o.Conn != c.a || o.To != c.end() {
		c.p.t.Fatalf("%s: %+v, want %+v", c.verb, o, c.end())
	}
	again := comes(c.b(), peer, c.port)
	if o := c.p.only(again); o.Kind != aShut || o.Conn != c.b() {
		c.p.t.Fatalf("%+v again: %+v", again, o)
	}
	if Owner(c.p.g, c.a) != c.id || Owner(c.p.g, c.b()) != -1 {
		c.p.t.Fatalf("%d is of %d", c.a, Owner(c.p.g, c.a))
	}
}

// joined is that who was asked for is there. All that waited is sent to him.
func (c *carrier) joined() {
	var waited []byte
	if c.from == c.a {
		waited = bytes.Join(c.cuts[:c.ahead], nil)
	}
	if b := Sent(c.p.do(dialed(c.a, c.b())), c.b()); !bytes.Equal(b, waited) {
		c.p.t.Fatalf("%q waited, and %q is sent", waited, b)
	}
	if Owner(c.p.g, c.b()) != c.id {
		c.p.t.Fatalf("%d is of %d", c.b(), Owner(c.p.g, c.b()))
	}
}

// chunks are the steps of the file itself, some of which are ahead of who is asked for.
func (c *carrier) chunks() []func() {
	c.from, c.to = c.a, c.b()
	if c.stores == c.isPoint() {
		c.from, c.to = c.b(), c.a
		c.ahead = 0
	}
	var l []func()
	for i, b := range c.cuts {
		if i == c.ahead {
			l = append(l, c.joined)
		}
		e := bytesOn(c.from, string(b))
		if i < c.ahead {
			l = append(l, func() { c.p.silent(e) })
			continue
		}
		l = append(l, func() { c.p.told(e, c.to, string(b)) })
	}
	if c.ahead >= len(c.cuts) {
		l = append(l, c.joined)
	}
	return l
}

// ends are the steps behind it: who sent it closes, and the server tells that it is done.
func (c *carrier) ends() []func() { return []func(){c.closes, c.isDone} }

func (c *carrier) closes() {
	l := c.p.do(closes(c.from))
	if len(l) != 2 || l[0].Kind != aShut || l[0].Conn != c.a || l[1].Kind != aShut || l[1].Conn != c.b() {
		c.p.t.Fatalf("%+v goes out at the end", l)
	}
	if Owner(c.p.g, c.a) != -1 || Owner(c.p.g, c.b()) != -1 {
		c.p.t.Fatalf("%d is of %d, %d of %d", c.a, Owner(c.p.g, c.a), c.b(), Owner(c.p.g, c.b()))
	}
}

func (c *carrier) isDone() { c.p.told(bytesOn(c.up(), "226 done\r\n"), c.id, "226 done\r\n") }

// tells is the command of what is carried.
func (c *carrier) tells() []func() {
	line, sent := "retr f\r\n", "RETR /f\r\n"
	if c.stores {
		line, sent = "stor f\r\n", "STOR /f\r\n"
	}
	return []func(){
		func() { c.p.told(bytesOn(c.id, line), c.up(), sent) },
		func() { c.p.told(bytesOn(c.up(), "150 on\r\n"), c.id, "150 on\r\n") },
	}
}

// steps are all of them. Whether who is waited for comes ahead of the command, or behind it, is one.
func (c *carrier) steps(late bool) []func() {
	ask := c.listen()
	if c.isPoint() {
		ask = c.point()
	}
	come := []func(){c.comes}
	if late {
		return slices.Concat(ask, c.tells(), come, c.chunks(), c.ends())
	}
	return slices.Concat(ask, come, c.tells(), c.chunks(), c.ends())
}

// check holds what one got to the file that was sent.
func (c *carrier) check() {
	c.p.t.Helper()
	if b := Sent(c.p.out, c.to); !bytes.Equal(b, c.file) {
		c.p.t.Errorf("%s, stored %t: %d bytes came, of %d", c.verb, c.stores, len(b), len(c.file))
	}
	if b := Sent(c.p.out, c.from); len(b) != 0 {
		c.p.t.Errorf("%s, stored %t: %d bytes went back", c.verb, c.stores, len(b))
	}
}

// someFile is one of any bytes, and someCuts are its parts, none of them empty.
func someFile(r *rand.Rand, n int) []byte {
	b := make([]byte, n)
	r.Read(b)
	copy(b, "\r\n\xff\xfd\x00ab\r\n226 done\r\n\xff\xff")
	return b
}

func someCuts(r *rand.Rand, b []byte) [][]byte {
	var l [][]byte
	for len(b) > 0 {
		n := min(len(b), 1+r.Intn(1+r.Intn(2*len(b))))
		l, b = append(l, b[:n]), b[n:]
	}
	return l
}

var verbs = []string{"PASV", "EPSV", "PORT", "EPRT"}

// P23.3: a file is carried both ways, by each verb by which an end is told, of each tenant, whether who is waited for comes ahead of the command or behind it, and with parts that come ahead of who is asked for.
func TestFilesAreCarried(t *testing.T) {
	r := rand.New(rand.NewSource(6))
	for tenant := range 3 {
		for _, verb := range verbs {
			for n := range 40 {
				p := newPlay(t, theConf())
				c := &carrier{p: p, tenant: tenant, id: 1, a: 20, peer: me, verb: verb, stores: n%2 > 0, file: someFile(r, []int{0, 1, 24, 3000, 100000}[n%5])}
				c.cuts = someCuts(r, c.file)
				c.ahead = min(n/8, len(c.cuts))
				for _, step := range slices.Concat(c.enter(), c.steps(n/2%2 > 0)) {
					step()
				}
				c.check()
				checkCount(t, verb, p.g, tenant, [3]int{1, 0, 0})
				if p.g.All[tenant] != len(c.file) || p.g.S[0].Used != len(c.file) {
					t.Errorf("%v are counted, and %d", p.g.All, p.g.S[0].Used)
				}
				checkAllAtOnce(p)
			}
		}
	}
}

// checkAllAtOnce holds a whole run to what happened event by event.
func checkAllAtOnce(p *play) {
	p.t.Helper()
	g, out := gate.Run(p.begun, p.l)
	if !gate.Same(g, p.g) {
		p.t.Error("a run of all events is another one")
	}
	for conn := range 120 {
		if a, b := Sent(out, conn), Sent(p.out, conn); !bytes.Equal(a, b) {
			p.t.Errorf("to %d %q, and event by event %q", conn, a, b)
		}
	}
}

// P23.3: a session has one file carried behind the other, in all ways.
func TestManyFilesOfOneSession(t *testing.T) {
	r := rand.New(rand.NewSource(7))
	p := newPlay(t, theConf())
	first := &carrier{p: p, id: 1, peer: me}
	for _, step := range first.enter() {
		step()
	}
	var all []*carrier
	sum := 0
	for n := range 24 {
		c := &carrier{p: p, id: 1, a: 20 + 2*n, peer: me, verb: verbs[n%4], stores: n/4%2 > 0, file: someFile(r, 50+n)}
		c.cuts = someCuts(r, c.file)
		for _, step := range c.steps(n/8%2 > 0) {
			step()
		}
		sum += len(c.file)
		all = append(all, c)
	}
	for _, c := range all {
		c.check()
	}
	if p.g.S[0].Used != sum || p.g.All[0] != sum || p.g.All[1] != 0 {
		t.Errorf("%d were carried, %d and %v are counted", sum, p.g.S[0].Used, p.g.All)
	}
	checkAllAtOnce(p)
}

// P23.3: a session has two files carried at once, as the server tells of the first one that it is done while its bytes still come.
func TestTwoFilesAtOnce(t *testing.T) {
	r := rand.New(rand.NewSource(9))
	for n := range 64 {
		p := newPlay(t, theConf())
		first := &carrier{p: p, id: 1, a: 20, peer: me, verb: verbs[n%4], stores: n&4 > 0, file: someFile(r, 300)}
		second := &carrier{p: p, id: 1, a: 30, peer: me, verb: verbs[n/16], stores: n&8 > 0, file: someFile(r, 400)}
		first.cuts, second.cuts = someCuts(r, first.file), someCuts(r, second.file)
		begin, chunks := first.listen(), first.chunks()
		if first.isPoint() {
			begin = first.point()
		}
		for _, step := range slices.Concat(first.enter(), begin, first.tells(), []func(){first.comes, first.isDone}) {
			step()
		}
		for _, step := range second.steps(false) {
			step()
			if len(chunks) > 0 && r.Intn(3) > 0 {
				chunks[0]()
				chunks = chunks[1:]
			}
		}
		for _, step := range append(chunks, first.closes) {
			step()
		}
		first.check()
		second.check()
		if p.g.All[0] != 700 || p.g.S[0].Used != 700 {
			t.Errorf("%v are counted, and %d", p.g.All, p.g.S[0].Used)
		}
		checkAllAtOnce(p)
	}
}

// P23.3: sessions of all tenants have files carried at once, their steps mixed by chance; each one gets what is its own.
func TestFilesOfAllAtOnce(t *testing.T) {
	r := rand.New(rand.NewSource(8))
	for range 60 {
		p := newPlay(t, theConf())
		var all []*carrier
		var steps [][]func()
		for tenant := range 3 {
			c := &carrier{p: p, tenant: tenant, id: 1 + 2*tenant, a: 20 + 2*tenant, peer: pick(r, me, you), verb: pick(r, verbs...), stores: r.Intn(2) > 0, file: someFile(r, 30+r.Intn(500)), ahead: r.Intn(3)}
			c.cuts = someCuts(r, c.file)
			c.ahead = min(c.ahead, len(c.cuts))
			all, steps = append(all, c), append(steps, slices.Concat(c.enter(), c.steps(r.Intn(2) > 0)))
		}
		for len(steps) > 0 {
			i := r.Intn(len(steps))
			steps[i][0]()
			steps[i] = steps[i][1:]
			if len(steps[i]) == 0 {
				steps = slices.Delete(steps, i, i+1)
			}
		}
		for _, c := range all {
			c.check()
			checkCount(t, c.verb, p.g, c.tenant, [3]int{1, 0, 0})
			if p.g.All[c.tenant] != len(c.file) {
				t.Errorf("%d were carried of %d, and %v are counted", len(c.file), c.tenant, p.g.All)
			}
		}
		checkAllAtOnce(p)
	}
}

// entered is a play in which one client is in.
func entered(t *testing.T, tenant int, verb string) *carrier {
	t.Helper()
	c := &carrier{p: newPlay(t, theConf()), tenant: tenant, id: 1, a: 20, peer: me, verb: verb}
	for _, step := range c.enter() {
		step()
	}
	return c
}

// tellsEnd is what goes out where an end is told, by the client, or by the server.
func (c *carrier) tellsEnd(e api.End) []api.Out {
	c.p.t.Helper()
	text, _ := six.Text(e)
	switch c.verb {
	case "PORT":
		return c.p.do(bytesOn(c.id, "PORT "+text+"\r\n"))
	case "EPRT":
		return c.p.do(bytesOn(c.id, fmt.Sprintf("EPRT |1|%s|%d|\r\n", dots(e.Host), e.Port)))
	case "PASV":
		text = "227 ok (" + text + ")\r\n"
	case "EPSV":
		text = fmt.Sprintf("229 ok (|||%d|)\r\n", e.Port)
	}
	c.p.told(bytesOn(c.id, c.verb+"\r\n"), c.up(), c.verb+"\r\n")
	return c.p.do(bytesOn(c.up(), text))
}

// P23.3: by each verb, a port from 1024 on of who told it, and no other one, is asked for when somebody comes.
func TestEndsThatMayBe(t *testing.T) {
	for tenant := range 3 {
		for _, verb := range verbs {
			for _, port := range []int{1, 20, 21, 80, 1022, 1023, 1024, 1025, 30000, 65534, 65535} {
				for _, host := range hosts() {
					c := entered(t, tenant, verb)
					teller, peer := c.at(), c.peer
					if c.isPoint() {
						teller, peer = peer, teller
					}
					if verb == "EPSV" {
						host = teller
					}
					out := c.tellsEnd(api.End{Host: host, Port: port})
					what := fmt.Sprintf("%s of %v, port %d", verb, host, port)
					if host != teller || port < 1024 {
						checkCount(t, what, c.p.g, tenant, [3]int{1, 0, 0})
						if len(out) != 1 || len(Sent(out, c.id)) == 0 || !strings.Contains("45", string(out[0].B[:1])) {
							t.Errorf("%s: %s goes out", what, show(out))
						}
						continue
					}
					checkCount(t, what, c.p.g, tenant, [3]int{1, 1, 0})
					o := c.p.only(comes(c.a, peer, c.p.g.H[0].Port))
					if o.Kind != aDial || o.Conn != c.a || o.To != (api.End{Host: host, Port: port}) {
						t.Errorf("%s: %+v goes out", what, o)
					}
					checkCount(t, what, c.p.g, tenant, [3]int{1, 0, 1})
				}
			}
		}
	}
}

// P23.3: where a pinhole leads nobody is asked for once it is over, or its session is.
func TestOverIsNotAsked(t *testing.T) {
	for _, verb := range verbs {
		for ticks := range 14 {
			c := entered(t, 0, verb)
			c.tellsEnd(c.end())
			port, peer := c.p.g.H[0].Port, c.p.g.H[0].Peer
			for range ticks {
				c.p.silent(api.Ev{Kind: aTick})
			}
			o := c.p.only(comes(c.a, peer, port))
			if live := ticks < 10; (o.Kind == aDial) != live || (o.Kind == aShut) == live {
				t.Errorf("%s, behind %d ticks: %+v", verb, ticks, o)
			}
		}
		c := entered(t, 0, verb)
		c.tellsEnd(c.end())
		port, peer := c.p.g.H[0].Port, c.p.g.H[0].Peer
		c.p.do(closes(c.id))
		if o := c.p.only(comes(c.a, peer, port)); o.Kind != aShut {
			t.Errorf("%s, behind its session: %+v", verb, o)
		}
	}
}
