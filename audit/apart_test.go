package audit

import (
	"fmt"
	"math/rand"
	"reflect"
	"slices"
	"testing"

	"wharfinger/api"
	"wharfinger/gate"
	"wharfinger/hole"
)

// others is all of a gateway but what is of one tenant: its sessions, also those that are not in yet, and their links; its pinholes; and its bytes.
func others(g api.Gate, tenant int) api.Gate {
	mine := map[int]bool{}
	left := api.Gate{C: g.C, Now: g.Now}
	for _, s := range g.S {
		if s.L.Tenant == tenant {
			mine[s.ID] = true
			continue
		}
		left.S = append(left.S, s)
	}
	for _, h := range g.H {
		if h.Tenant != tenant {
			left.H = append(left.H, h)
		}
	}
	for _, x := range g.X {
		if !mine[x.Sess] {
			left.X = append(left.X, x)
		}
	}
	for i, n := range g.All {
		if i != tenant {
			left.All = append(left.All, n)
		}
	}
	return left
}

// isOf tells whether a connection is of one tenant's session, whether it is in or not.
func isOf(g api.Gate, conn, tenant int) bool {
	s, is := sessOf(g, Owner(g, conn))
	return is && s.L.Tenant == tenant
}

// toOthers is what goes out but to one tenant's, as they are, or were.
func toOthers(g, next api.Gate, l []api.Out, tenant int) []api.Out {
	var left []api.Out
	for _, o := range l {
		if !isOf(g, o.Conn, tenant) && !isOf(next, o.Conn, tenant) {
			left = append(left, o)
		}
	}
	return left
}

// comesOf is the tenant of whose session, which is in, an event comes; -1: of none. Somebody who comes by a pinhole comes of its session.
func comesOf(g api.Gate, e api.Ev) int {
	id := -1
	switch e.Kind {
	case aBytes, aClosed, aDialed:
		id = Owner(g, e.Conn)
	case aCome:
		if _, h, is := hole.Match(g.H, e.Port, e.Host, g.Now); is {
			id = h.Sess
		}
	}
	s, is := sessOf(g, id)
	if !is || s.L.Phase != atIn {
		return -1
	}
	return s.L.Tenant
}

// newOf is the number that an event would make a connection; -1: none.
func newOf(e api.Ev) int {
	switch {
	case e.Kind == anOpen || e.Kind == aCome:
		return e.Conn
	case e.Kind == aDialed && e.Up:
		return e.Port
	}
	return -1
}

// show is what goes out, as a test tells it.
func show(l []api.Out) string {
	s := ""
	for _, o := range l {
		s += fmt.Sprintf("{%d to %d, %v, %q}", o.Kind, o.Conn, o.To, o.B)
	}
	return s
}

// sameOuts tells whether the same goes out, whether lists without elements are nil or empty.
func sameOuts(a, b []api.Out) bool { return show(a) == show(b) }

// did is Do, with an error as nothing that happens.
func did(g api.Gate, e api.Ev) (api.Gate, []api.Out) {
	next, out, no := gate.Do(g, e)
	if no != 0 {
		return g, nil
	}
	return next, out
}

// checkOne holds one event that comes of one tenant's sessions that are in to what is not its own.
func checkOne(t *testing.T, g api.Gate, e api.Ev) string {
	t.Helper()
	tenant := comesOf(g, e)
	if tenant < 0 {
		return "of none"
	}
	next, out := did(g, e)
	if !gate.Same(others(g, tenant), others(next, tenant)) {
		t.Fatalf("%+v of tenant %d:\n%+v\ncomes to\n%+v", e, tenant, g, next)
	}
	// Who is not let through, or is there and may not, is nobody's.
	left := slices.DeleteFunc(toOthers(g, next, out, tenant), func(o api.Out) bool { return o.Kind == aShut && o.Conn == newOf(e) })
	if len(left) > 0 {
		t.Fatalf("%+v of tenant %d: %s goes out", e, tenant, show(left))
	}
	if reflect.DeepEqual(g, next) {
		return "nothing"
	}
	return fmt.Sprintf("of %d, kind %d", tenant, e.Kind)
}

// P23.3: what comes of one tenant's sessions that are in changes nothing of anybody else, one event at a time.
func TestOneAtATime(t *testing.T) {
	counts := map[string]int{}
	for seed := range 50 {
		w := &writer{r: rand.New(rand.NewSource(int64(300 + seed)))}
		g := w.begins(t)
		for range 400 {
			e := w.event(g)
			counts[checkOne(t, g, e)]++
			g, _ = did(g, e)
		}
	}
	for tenant := range 3 {
		for _, kind := range []int{aBytes, aDialed, aCome, aClosed} {
			what := fmt.Sprintf("of %d, kind %d", tenant, kind)
			if counts[what] < 10 {
				t.Errorf("%s: %d times", what, counts[what])
			}
		}
	}
}

// pair are two gateways that differ by what came of one tenant's sessions, and by nothing else.
type pair struct {
	g      [2]api.Gate
	tenant int
}

// goOn is one event. What comes of that tenant's sessions comes to one of both, or to both, by chance; all else comes to both.
func (p *pair) goOn(t *testing.T, r *rand.Rand, e api.Ev) string {
	t.Helper()
	conn := newOf(e)
	if conn >= 0 && (Owner(p.g[0], conn) < 0) != (Owner(p.g[1], conn) < 0) {
		return "used by one alone"
	}
	takes := [2]bool{true, true}
	what := "of others"
	if comesOf(p.g[0], e) == p.tenant || comesOf(p.g[1], e) == p.tenant {
		what = "of the tenant"
		takes = pick(r, [2]bool{true, false}, [2]bool{false, true}, [2]bool{true, true})
	}
	var goes [2][]api.Out
	for i, g := range p.g {
		if !takes[i] {
			continue
		}
		next, out := did(g, e)
		goes[i] = toOthers(g, next, out, p.tenant)
		if what == "of the tenant" { // who is not let through here need not have come there
			goes[i] = slices.DeleteFunc(goes[i], func(o api.Out) bool { return o.Kind == aShut && o.Conn == conn })
		}
		p.g[i] = next
	}
	if !sameOuts(goes[0], goes[1]) {
		t.Fatalf("%+v: %s goes out, and else %s", e, show(goes[0]), show(goes[1]))
	}
	if !gate.Same(others(p.g[0], p.tenant), others(p.g[1], p.tenant)) {
		t.Fatalf("%+v:\n%+v\nand else\n%+v", e, p.g[0], p.g[1])
	}
	if len(goes[0]) > 0 {
		what += ", to others"
	}
	return what
}

// P23.3: two gateways that differ by what came of one tenant's sessions that are in go on alike in all else, as long as no connection is used by the one, and not by the other.
func TestTwoThatDiffer(t *testing.T) {
	counts, apart := map[string]int{}, 0
	for seed := range 75 {
		r := rand.New(rand.NewSource(int64(500 + seed)))
		w := &writer{r: r}
		g := w.begins(t)
		p := &pair{g: [2]api.Gate{g, g}, tenant: seed % 3}
		for range 500 {
			counts[p.goOn(t, r, w.event(p.g[r.Intn(2)]))]++
			if !gate.Same(p.g[0], p.g[1]) {
				apart++
			}
		}
	}
	for _, s := range []string{"used by one alone", "of the tenant", "of others", "of others, to others"} {
		if counts[s] < 150 {
			t.Errorf("%s: %d times", s, counts[s])
		}
	}
	if apart < 15000 {
		t.Errorf("they differ %d times", apart)
	}
}

// script is a run with all of its events, those among them that do not come of a tenant's sessions that are in, and who ever were others' connections.
type script struct {
	begun   api.Gate
	all     []api.Ev
	left    []api.Ev
	strange map[int]bool
	without int
}

// scriptOf is one by chance of which no connection's number comes twice.
func scriptOf(t *testing.T, seed, tenant int) script {
	t.Helper()
	w := &writer{r: rand.New(rand.NewSource(int64(seed))), fresh: 100}
	g := w.begins(t)
	x := script{begun: g, strange: map[int]bool{}}
	for range 600 {
		e := w.event(g)
		x.all = append(x.all, e)
		if comesOf(g, e) == tenant {
			x.without++
		} else {
			x.left = append(x.left, e)
		}
		g, _ = did(g, e)
		for _, conn := range used(g) {
			s, _ := sessOf(g, Owner(g, conn))
			if s.L.Phase == atIn && s.L.Tenant != tenant {
				x.strange[conn] = true
			}
		}
	}
	return x
}

// shutOf is how often one is shut.
func shutOf(l []api.Out, conn int) int {
	n := 0
	for _, o := range l {
		if o.Kind == aShut && o.Conn == conn {
			n++
		}
	}
	return n
}

// P23.3: of a whole script all that comes of one tenant's sessions that are in is left out, and all others, and what they were sent, are as they were.
func TestLeftOut(t *testing.T) {
	without, strange, sent := 0, 0, 0
	for seed := range 45 {
		tenant := seed % 3
		x := scriptOf(t, 700+seed, tenant)
		g, out := gate.Run(x.begun, x.all)
		h, less := gate.Run(x.begun, x.left)
		if !gate.Same(others(g, tenant), others(h, tenant)) {
			t.Fatalf("seed %d: without tenant %d\n%+v\nand with it\n%+v", seed, tenant, h, g)
		}
		for other := range 3 {
			a, b, c := Count(h, other)
			if other != tenant {
				checkCount(t, "with all", g, other, [3]int{a, b, c})
			}
		}
		for conn := range x.strange {
			want := string(Sent(less, conn))
			checkSent(t, "with all", out, conn, want)
			if shutOf(out, conn) != shutOf(less, conn) {
				t.Fatalf("seed %d: %d is shut %d times, and else %d", seed, conn, shutOf(out, conn), shutOf(less, conn))
			}
			sent += len(want)
		}
		without, strange = without+x.without, strange+len(x.strange)
	}
	if without < 2500 || strange < 600 || sent < 50000 {
		t.Errorf("%d events are left out, and %d others are sent %d bytes", without, strange, sent)
	}
}

// usedUp are the events by which a tenant has as many sessions, pinholes and links as may be, and carried all that it may; its connections are from 50 on.
func usedUp(p *play, tenant int) {
	p.t.Helper()
	x := p.g.C.Tenants[tenant]
	var c *carrier
	for n := range x.Sessions {
		c = &carrier{p: p, tenant: tenant, id: 50 + 2*n, a: 60, peer: you, verb: "PASV", stores: true, cuts: [][]byte{make([]byte, x.Each)}, ahead: 1}
		for _, step := range c.enter() {
			step()
		}
	}
	for _, step := range slices.Concat(c.listen(), []func(){c.comes}, c.chunks()) {
		step()
	}
	p.do(bytesOn(60, "x"))
	for range x.Holes {
		c.tellsEnd(c.end())
	}
	if p.g.All[tenant] != x.Quota {
		p.t.Errorf("%d are carried of %d", p.g.All[tenant], x.Quota)
	}
	checkCount(p.t, "used up", p.g, tenant, [3]int{x.Sessions, x.Holes, 0})
}

// P23.3: where one tenant has all that it may all others have what they had, by hand: a file is carried for each of them as if they were alone.
func TestUsedUp(t *testing.T) {
	for tenant := range 3 {
		for other := range 3 {
			for n, verb := range verbs {
				conf := theConf()
				conf.Pre = 1
				conf.Tenants[tenant].Each, conf.Tenants[tenant].Quota = 40, 40
				conf.Tenants[tenant].Holes = 1
				alone, beside := newPlay(t, conf), newPlay(t, conf)
				usedUp(beside, tenant)
				if tenant == other {
					continue
				}
				for _, p := range []*play{alone, beside} {
					r := rand.New(rand.NewSource(int64(n)))
					c := &carrier{p: p, tenant: other, id: 1, a: 20, peer: me, verb: verb, stores: n%2 > 0, file: someFile(r, 200)}
					c.cuts = someCuts(r, c.file)
					for _, step := range slices.Concat(c.enter(), c.steps(false)) {
						step()
					}
					c.check()
					checkCount(t, verb, p.g, other, [3]int{1, 0, 0})
				}
				for conn := range 50 {
					checkSent(t, verb, beside.out, conn, string(Sent(alone.out, conn)))
				}
				if !gate.Same(others(alone.g, tenant), others(beside.g, tenant)) {
					t.Errorf("%s of %d beside %d: %+v, alone %+v", verb, other, tenant, beside.g, alone.g)
				}
			}
		}
	}
}

// P23.3: a connection that is used by the one tenant is none that another one's could have, which is all that he may notice.
func TestUsedByOne(t *testing.T) {
	c := entered(t, 0, "PASV")
	for _, step := range append(c.listen(), c.comes) {
		step()
	}
	for _, conn := range []int{1, 2, 20} {
		for _, e := range []api.Ev{{Kind: anOpen, Conn: conn, Host: you}, comes(conn, you, 3000)} {
			if _, out, no := gate.Do(c.p.g, e); no != 1 || len(out) != 0 {
				t.Errorf("%+v: %d, %s", e, no, show(out))
			}
			e.Conn = 77
			if _, out, no := gate.Do(c.p.g, e); no != 0 || len(out) != 1 {
				t.Errorf("%+v: %d, %s", e, no, show(out))
			}
		}
	}
}
