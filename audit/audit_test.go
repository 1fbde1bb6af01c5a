package audit

import (
	"math"
	"testing"

	"wharfinger/api"
)

// What goes out, by the document's own order, so that a table by hand tells it.
const (
	aSend, aShut, aDial = 0, 1, 2
)

func sess(id, up, tenant int) api.Sess {
	return api.Sess{ID: id, Up: up, L: api.Login{Phase: 6, Tenant: tenant}}
}

// aheadOf is a session that is not in, though it may name a tenant.
func aheadOf(phase, id, up, tenant int) api.Sess {
	return api.Sess{ID: id, Up: up, L: api.Login{Phase: phase, Tenant: tenant}}
}

func link(sess, a, b int) api.Link { return api.Link{Sess: sess, A: a, B: b} }

func out(kind, conn int, b string) api.Out {
	return api.Out{Kind: kind, Conn: conn, B: []byte(b)}
}

// asked is a Send or Shut that names an end no less, or a Dial that does.
func asked(kind, conn int, b string) api.Out {
	o := out(kind, conn, b)
	o.To = api.End{Host: api.Host{10, 0, 0, 1}, Port: 2000}
	return o
}

// sessions and links are a gateway of these alone.
func sessions(l ...api.Sess) api.Gate { return api.Gate{S: l} }

func with(g api.Gate, l ...api.Link) api.Gate {
	g.X = append([]api.Link(nil), l...)
	return g
}

// some is a gateway of which each connection has a place of its own.
func some() api.Gate {
	return with(sessions(sess(1, 2, 0), aheadOf(1, 3, -1, 0), aheadOf(0, 4, -1, -1), sess(7, 8, 1), aheadOf(3, 5, 6, 1)),
		link(7, 10, -1), link(1, 11, 12), link(7, 13, 14), link(1, 0, 15))
}

// P23.1: each connection of some sessions and links, and those that nobody has.
func TestOwner(t *testing.T) {
	g := some()
	owners := map[int]int{1: 1, 2: 1, 3: 3, 4: 4, 7: 7, 8: 7, 5: 5, 6: 5, 10: 7, 11: 1, 12: 1, 13: 7, 14: 7, 0: 1, 15: 1}
	for conn := -40; conn < 60; conn++ {
		want, is := owners[conn]
		if !is {
			want = -1
		}
		if id := Owner(g, conn); id != want {
			t.Errorf("Owner of %d = %d, want %d", conn, id, want)
		}
	}
	for _, conn := range []int{math.MinInt, math.MinInt + 1, -1 << 40, 1 << 40, math.MaxInt - 1, math.MaxInt, 65535, 1 << 32, 1<<32 + 1} {
		if id := Owner(g, conn); id != -1 {
			t.Errorf("Owner of %d = %d", conn, id)
		}
	}
}

// P23.1: the example of the chapter: a client's connection is its own session's.
func TestExample(t *testing.T) {
	for _, id := range []int{0, 1, 77, math.MaxInt} {
		if got := Owner(sessions(sess(5, 6, 0), sess(id, -1, 0)), id); got != id {
			t.Errorf("Owner of %d = %d", id, got)
		}
	}
}

// P23.1: of a number that several have, and of gateways that may not be, whatever is wrong with them.
func TestOwnerOfMany(t *testing.T) {
	for _, x := range []struct {
		what       string
		g          api.Gate
		conn, want int
	}{
		{"nothing", api.Gate{}, 0, -1},
		{"no session, and no link", api.Gate{S: []api.Sess{}, X: []api.Link{}}, 1, -1},
		{"noughts", sessions(api.Sess{}), 0, 0},
		{"noughts of another", sessions(sess(4, 0, 0), api.Sess{}), 0, 4},
		{"an Up ahead of an ID", sessions(sess(1, 3, 0), sess(3, 4, 0)), 3, 1},
		{"an ID ahead of an Up", sessions(sess(3, 4, 0), sess(1, 3, 0)), 3, 3},
		{"two of one Up", sessions(sess(8, 3, 0), sess(9, 3, 0)), 3, 8},
		{"two of one Up, the other way", sessions(sess(9, 3, 0), sess(8, 3, 0)), 3, 9},
		{"two of one ID", sessions(sess(3, 5, 0), sess(3, 6, 1)), 3, 3},
		{"the second one's Up of one ID", sessions(sess(3, 5, 0), sess(3, 6, 1)), 6, 3},
		{"an ID that is its own Up", sessions(sess(3, 3, 0)), 3, 3},
		{"the third of three", sessions(sess(1, 2, 0), sess(3, 4, 0), sess(5, 6, 0)), 6, 5},
		{"a session's ID and a link's A", with(sessions(sess(1, 2, 0), sess(3, 4, 0)), link(1, 3, 9)), 3, 3},
		{"a session's ID and a link's B", with(sessions(sess(1, 2, 0), sess(3, 4, 0)), link(1, 9, 3)), 3, 3},
		{"a session's Up and a link's A", with(sessions(sess(1, 2, 0), sess(3, 4, 0)), link(1, 4, 9)), 4, 3},
		{"a session's Up and a link's B", with(sessions(sess(1, 2, 0), sess(3, 4, 0)), link(1, 9, 4)), 4, 3},
		{"a link's A and a later one's A", with(api.Gate{}, link(1, 9, 10), link(2, 9, 11)), 9, 1},
		{"a link's A and a later one's B", with(api.Gate{}, link(2, 9, 10), link(1, 11, 9)), 9, 2},
		{"a link's B and a later one's A", with(api.Gate{}, link(2, 10, 9), link(1, 9, 11)), 9, 2},
		{"a link's B and a later one's B", with(api.Gate{}, link(3, 10, 9), link(1, 11, 9)), 9, 3},
		{"a link of a session that is not", with(sessions(sess(1, 2, 0)), link(44, 9, 10)), 9, 44},
		{"a link that asks, ahead of one that is there", with(api.Gate{}, link(1, 8, -1), link(2, 9, -1)), 9, 2},
		{"a link whose two are the same", with(api.Gate{}, link(6, 9, 9)), 9, 6},
		{"a link with chunks though it may not have any", with(api.Gate{}, api.Link{Sess: 6, A: 8, B: 9, Wait: [][]byte{nil}}), 9, 6},
		{"a link's Sess alone", with(api.Gate{}, link(5, 8, 9)), 5, -1},
		{"an ID below 0", sessions(sess(-5, 6, 0)), 6, -5},
		{"a Sess below 0", with(api.Gate{}, link(-7, 6, 8)), 8, -7},
		{"an A below 0, and a B", with(api.Gate{}, link(3, -6, 8)), 8, 3},
		{"-1 of Ups and Bs", with(sessions(aheadOf(0, 1, -1, -1), aheadOf(1, 2, -1, 0)), link(1, 8, -1)), -1, -1},
		{"-1 of an ID", sessions(sess(-1, 6, 0), sess(-1, -1, 0)), -1, -1},
		{"-1 of a link", with(api.Gate{}, link(3, -1, -1)), -1, -1},
		{"-5 of an ID", sessions(sess(-5, 6, 0)), -5, -1},
		{"-5 of an Up", sessions(sess(5, -5, 0)), -5, -1},
		{"-5 of a link's A", with(api.Gate{}, link(3, -5, 8)), -5, -1},
		{"-5 of a link's B", with(api.Gate{}, link(3, 8, -5)), -5, -1},
		{"the least of an ID", sessions(sess(math.MinInt, 6, 0)), math.MinInt, -1},
		{"the least of a link", with(api.Gate{}, link(3, math.MinInt, math.MinInt)), math.MinInt, -1},
		{"the greatest of an Up", sessions(sess(4, math.MaxInt, 0)), math.MaxInt, 4},
		{"the greatest of a link's B", with(api.Gate{}, link(3, 8, math.MaxInt)), math.MaxInt, 3},
		{"a session that is gone", sessions(aheadOf(7, 4, 5, -1)), 5, 4},
		{"a pinhole's Sess and Port", api.Gate{H: []api.Hole{{Sess: 4, Port: 2000}}}, 4, -1},
	} {
		if id := Owner(x.g, x.conn); id != x.want {
			t.Errorf("%s: Owner of %d = %d, want %d", x.what, x.conn, id, x.want)
		}
	}
}

// held is some gateway with pinholes.
func held() api.Gate {
	g := some()
	g.H = []api.Hole{{Tenant: 1, Sess: 7}, {Tenant: 0, Sess: 1}, {Tenant: 1, Sess: 7}, {Tenant: 1, Sess: 7}}
	return g
}

func checkCount(t *testing.T, what string, g api.Gate, tenant int, want [3]int) {
	t.Helper()
	a, b, c := Count(g, tenant)
	if got := [3]int{a, b, c}; got != want {
		t.Errorf("%s: Count of %d = %v, want %v", what, tenant, got, want)
	}
}

// P23.1: sessions that are in and that are not, pinholes, and links of its sessions and of others'.
func TestCount(t *testing.T) {
	g := held()
	g.X = append(g.X, link(3, 20, 21), link(99, 22, -1), link(4, 23, -1))
	counts := map[int][3]int{0: {2, 1, 3}, 1: {2, 3, 2}, -1: {1, 0, 1}}
	for _, tenant := range []int{math.MinInt, -1 << 32, -5, -2, -1, 0, 1, 2, 3, 4, 7, 99, 1 << 32, 1<<32 + 1, math.MaxInt} {
		checkCount(t, "some", g, tenant, counts[tenant])
		checkCount(t, "nothing", api.Gate{}, tenant, [3]int{})
		checkCount(t, "no session", with(api.Gate{H: []api.Hole{{Tenant: 9}}}, g.X...), tenant, [3]int{})
	}
}

// P23.1: one kind alone, and gateways that may not be.
func TestCountOfOneKind(t *testing.T) {
	conf := api.Gate{C: api.Conf{Tenants: []api.Tenant{{Name: "a"}, {Name: "b"}}}, All: []int{3, 4}}
	for _, x := range []struct {
		what   string
		g      api.Gate
		tenant int
		want   [3]int
	}{
		{"a tenant with nothing", conf, 0, [3]int{}},
		{"another one with nothing", conf, 1, [3]int{}},
		{"one session", sessions(sess(1, 2, 0)), 0, [3]int{1, 0, 0}},
		{"one session of another", sessions(sess(1, 2, 1)), 0, [3]int{}},
		{"in all phases", sessions(aheadOf(0, 1, -1, 2), aheadOf(1, 2, -1, 2), aheadOf(2, 3, 4, 2), aheadOf(3, 5, 6, 2), aheadOf(4, 7, 8, 2), aheadOf(5, 9, 10, 2), aheadOf(6, 11, 12, 2), aheadOf(7, 13, 14, 2)), 2, [3]int{8, 0, 0}},
		{"of none", sessions(aheadOf(0, 1, -1, -1), sess(2, 3, 0), aheadOf(7, 4, -1, -1)), -1, [3]int{2, 0, 0}},
		{"a link of one of none", with(sessions(aheadOf(0, 1, -1, -1), sess(2, 3, 0)), link(1, 8, 9), link(2, 10, 11), link(-1, 12, 13)), -1, [3]int{1, 0, 1}},
		{"pinholes alone", api.Gate{H: []api.Hole{{Tenant: 3}, {Tenant: 3}, {Tenant: 2}}}, 3, [3]int{0, 2, 0}},
		{"pinholes of none", api.Gate{H: []api.Hole{{Tenant: -1}, {Tenant: -1}, {}}}, -1, [3]int{0, 2, 0}},
		{"a pinhole of its session, and another tenant", api.Gate{S: []api.Sess{sess(1, 2, 0)}, H: []api.Hole{{Sess: 1, Tenant: 1}}}, 0, [3]int{1, 0, 0}},
		{"the other one's of these", api.Gate{S: []api.Sess{sess(1, 2, 0)}, H: []api.Hole{{Sess: 1, Tenant: 1}}}, 1, [3]int{0, 1, 0}},
		{"pinholes that are over, or all the same", api.Gate{Now: 9, H: []api.Hole{{Port: 2000, Dead: 3}, {Port: 2000, Dead: 3}, {Port: 2000, Dead: 3}}}, 0, [3]int{0, 3, 0}},
		{"links alone", with(api.Gate{}, link(0, 1, 2), link(1, 3, 4)), 0, [3]int{}},
		{"links by an Up", with(sessions(sess(1, 2, 0)), link(2, 8, 9)), 0, [3]int{1, 0, 0}},
		{"links by an A or a B", with(sessions(sess(1, 2, 0)), link(3, 1, 1)), 0, [3]int{1, 0, 0}},
		{"links by a tenant's number", with(sessions(sess(5, 2, 1)), link(1, 8, 9)), 1, [3]int{1, 0, 0}},
		{"more links than may be", with(sessions(sess(1, 2, 0)), link(1, 8, 9), link(1, 8, 9), link(1, 8, -1), link(1, -1, -1)), 0, [3]int{1, 0, 4}},
		{"a link of a session that two have", with(sessions(sess(1, 2, 0), sess(1, 3, 0)), link(1, 8, 9)), 0, [3]int{2, 0, 1}},
		{"one of two tenants' sessions", with(sessions(sess(1, 2, 0), sess(1, 3, 1)), link(1, 8, 9)), 0, [3]int{1, 0, 1}},
		{"the other one of these", with(sessions(sess(1, 2, 0), sess(1, 3, 1)), link(1, 8, 9)), 1, [3]int{1, 0, 1}},
		{"an ID below 0", with(sessions(sess(-4, 2, 0)), link(-4, 8, 9), link(4, 10, 11)), 0, [3]int{1, 0, 1}},
		{"both ends of int", with(sessions(sess(math.MinInt, 2, math.MaxInt), sess(math.MaxInt, 3, math.MaxInt)), link(math.MaxInt, 8, 9), link(math.MinInt, 8, 9), link(0, 8, 9)), math.MaxInt, [3]int{2, 0, 2}},
		{"noughts", api.Gate{S: []api.Sess{{}}, H: []api.Hole{{}}, X: []api.Link{{}}}, 0, [3]int{1, 1, 1}},
	} {
		checkCount(t, x.what, x.g, x.tenant, x.want)
	}
}

// P23.1: a number that is no tenant's of the conf counts no less, as the conf is not asked.
func TestCountAsksNoConf(t *testing.T) {
	for _, n := range []int{0, 1, 2, 4, 5} {
		g := held()
		g.C.Tenants = make([]api.Tenant, n)
		checkCount(t, "held", g, 0, [3]int{2, 1, 2})
		checkCount(t, "held", g, 1, [3]int{2, 3, 2})
		checkCount(t, "held", g, -1, [3]int{1, 0, 0})
	}
}

// P23.1, R1: long lists are counted soon.
func TestLongLists(t *testing.T) {
	const most = 300000
	g := api.Gate{S: make([]api.Sess, most), H: make([]api.Hole, most), X: make([]api.Link, most)}
	for i := range most {
		g.S[i] = sess(i, -1, i%3)
		g.H[i].Tenant = i % 4
		g.X[i] = link(i, most+i, -1)
	}
	checkCount(t, "many", g, 0, [3]int{most / 3, most / 4, most / 3})
	checkCount(t, "many", g, 3, [3]int{0, most / 4, 0})
	for _, conn := range []int{0, 1, most - 1, most, 2*most - 1} {
		if id := Owner(g, conn); id != conn%most {
			t.Errorf("Owner of %d = %d", conn, id)
		}
	}
	if id := Owner(g, 2*most); id != -1 {
		t.Errorf("Owner of %d = %d", 2*most, id)
	}
}

func checkSent(t *testing.T, what string, l []api.Out, conn int, want string) {
	t.Helper()
	if b := Sent(l, conn); string(b) != want {
		t.Errorf("%s: Sent to %d = %q, want %q", what, conn, b, want)
	}
}

// P23.2: what goes out to one, among what goes to others, and what is no Send.
func TestSent(t *testing.T) {
	mixed := []api.Out{
		out(aSend, 1, "ab"), out(aSend, 2, "x"), out(aShut, 1, "y"), out(aSend, 1, "c"), asked(aDial, 1, "z"), out(aSend, 1, ""), {Conn: 1}, asked(aSend, 2, "\r\n"), out(aSend, 1, "ab"), out(3, 1, "u"), out(-1, 1, "v"), out(aSend, -1, "w"), out(aSend, 12, "\x00\xff\n"), out(aShut, 3, "s"), out(aDial, 4, "d"), {Kind: aShut, Conn: 1},
	}
	for conn, want := range map[int]string{1: "abcab", 2: "x\r\n", 12: "\x00\xff\n", -1: "w", 3: "", 4: "", 0: "", -2: "", math.MaxInt: "", math.MinInt: ""} {
		checkSent(t, "mixed", mixed, conn, want)
		checkSent(t, "nil", nil, conn, "")
		checkSent(t, "none", []api.Out{}, conn, "")
	}
}

// P23.2: of one thing that goes out, of all kinds.
func TestSentOfOne(t *testing.T) {
	for _, kind := range []int{math.MinInt, -2, -1, aSend, aShut, aDial, 3, 4, 1 << 32, math.MaxInt} {
		for _, conn := range []int{math.MinInt, -2, -1, 0, 1, 2, 1 << 32, math.MaxInt} {
			for _, to := range []int{math.MinInt, -2, -1, 0, 1, 2, 1 << 32, math.MaxInt} {
				for _, b := range []string{"", "a", "a\r\nb\x00"} {
					want := ""
					if kind == aSend && conn == to {
						want = b
					}
					checkSent(t, "one", []api.Out{out(kind, conn, b)}, to, want)
					checkSent(t, "one that names an end", []api.Out{asked(kind, conn, b)}, to, want)
					checkSent(t, "two", []api.Out{out(kind, conn, b), out(kind, conn, b)}, to, want+want)
				}
			}
		}
	}
}

// Ways: whoever ranges over some may leave off, and go through them once more.
func TestThose(t *testing.T) {
	odd := those([]int{2, 3, 4, 5, 7, 8, 9}, func(n int) bool { return n%2 > 0 })
	for most := range 6 {
		var got []int
		for n := range odd {
			if len(got) == most {
				break
			}
			got = append(got, n)
		}
		want := []int{3, 5, 7, 9}[:min(most, 4)]
		if len(got) != len(want) {
			t.Errorf("of at most %d: %v", most, got)
		}
		for i := range want {
			if got[i] != want[i] {
				t.Errorf("of at most %d: %v", most, got)
			}
		}
	}
	if n := count(odd); n != 4 {
		t.Errorf("count = %d", n)
	}
}
