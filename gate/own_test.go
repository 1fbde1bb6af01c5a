package gate

import (
	"fmt"
	"math/rand"
	"slices"
	"testing"

	"wharfinger/api"
)

// roomy is a list of its own, with room behind its end in which something stands that nobody may write over.
func roomy[T any](l []T, behind T) []T {
	return append(append(make([]T, 0, len(l)+2), l...), behind, behind)[:len(l)]
}

// whole is a list up to its last room.
func whole[T any](l []T) []T { return l[:cap(l)] }

// given is what is handed in: a gateway, or its conf alone, and events.
type given struct {
	g api.Gate
	l []api.Ev
}

// roomyOf is the same in memory of its own, each list with room.
func roomyOf(in given) given {
	g := norm(in.g)
	g.C.Tenants = roomy(g.C.Tenants, api.Tenant{Name: "z"})
	for i, x := range g.C.Tenants {
		g.C.Tenants[i].Rules = roomy(x.Rules, api.Rule{Verb: "z"})
	}
	g.S = roomy(g.S, api.Sess{ID: 99})
	for i, s := range g.S {
		g.S[i].C.B, g.S[i].S.B, g.S[i].G.Lines = roomy(s.C.B, 'z'), roomy(s.S.B, 'z'), roomy(s.G.Lines, "z")
	}
	g.H, g.All = roomy(g.H, api.Hole{Port: 99}), roomy(g.All, 99)
	g.X = roomy(g.X, api.Link{Sess: 99})
	for i, x := range g.X {
		for j, b := range x.Wait {
			x.Wait[j] = roomy(b, 'z')
		}
		g.X[i].Wait = roomy(x.Wait, []byte("z"))
	}
	l := roomy(in.l, api.Ev{Kind: 99})
	for i, e := range l {
		l[i].B = roomy(e.B, 'z')
	}
	return given{g, l}
}

// listed is one list, as it stands without the lists in it, and how to write over all of it.
type listed struct {
	stands func() string
	spoil  func()
}

func listOf[T any](l []T, flat func(T) any) listed {
	stands := func() string {
		s := fmt.Sprint(len(l))
		for _, x := range whole(l) {
			s += fmt.Sprintf(" %+v", flat(x))
		}
		return s
	}
	return listed{stands, func() { clear(whole(l)) }}
}

func itself[T any](x T) any { return x }

// listsOf are all lists of a gateway, and those in them, each one by itself.
func listsOf(g api.Gate) []listed {
	all := []listed{
		listOf(g.C.Tenants, func(x api.Tenant) any { x.Rules = nil; return x }), listOf(g.H, itself), listOf(g.All, itself),
		listOf(g.S, func(s api.Sess) any { s.C.B, s.S.B, s.G.Lines = nil, nil, nil; return s }),
		listOf(g.X, func(x api.Link) any { x.Wait = nil; return x }),
	}
	for _, x := range g.C.Tenants {
		all = append(all, listOf(x.Rules, itself))
	}
	for _, s := range g.S {
		all = append(all, listOf(s.C.B, itself), listOf(s.S.B, itself), listOf(s.G.Lines, itself))
	}
	for _, x := range g.X {
		all = append(all, listOf(x.Wait, func(b []byte) any { return len(b) }))
		for _, b := range x.Wait {
			all = append(all, listOf(b, itself))
		}
	}
	return all
}

// lists are all that is handed in.
func (in given) lists() []listed {
	all := append(listsOf(in.g), listOf(in.l, func(e api.Ev) any { e.B = nil; return e }))
	for _, e := range in.l {
		all = append(all, listOf(e.B, itself))
	}
	return all
}

// answer is what is answered.
type answer struct {
	g   api.Gate
	out []api.Out
}

func (a answer) lists() []listed {
	all := append(listsOf(a.g), listOf(a.out, func(o api.Out) any { o.B = nil; return o }))
	for _, o := range a.out {
		all = append(all, listOf(o.B, itself))
	}
	return all
}

// stand are lists as they stand, one by one.
func stand(l []listed) []string {
	var all []string
	for _, x := range l {
		all = append(all, x.stands())
	}
	return all
}

func spoil(l []listed) {
	for _, x := range l {
		x.spoil()
	}
}

// checkOwn holds a call to R3: what is handed in stays, whatever becomes of the answer, and the other way round; and no list of an answer is a part of another one.
func checkOwn(t *testing.T, what string, in given, call func(given) answer) {
	t.Helper()
	mine := roomyOf(in)
	lists := mine.lists()
	was := stand(lists)
	a := call(mine)
	if !slices.Equal(stand(lists), was) {
		t.Fatalf("%s changed what was handed in: %q, was %q", what, stand(lists), was)
	}
	told := stand(a.lists())
	spoil(lists)
	if !slices.Equal(stand(a.lists()), told) {
		t.Fatalf("%s: the answer changed with what was handed in: %q, was %q", what, stand(a.lists()), told)
	}
	mine = roomyOf(in)
	lists = mine.lists()
	spoil(call(mine).lists())
	if !slices.Equal(stand(lists), was) {
		t.Fatalf("%s: what was handed in changed with the answer: %q, was %q", what, stand(lists), was)
	}
	for i := range told {
		apart := call(roomyOf(in)).lists()
		for j, x := range apart {
			if j != i {
				x.spoil()
			}
		}
		if apart[i].stands() != told[i] {
			t.Fatalf("%s: list %d of the answer is a part of another one: %s, was %s", what, i, apart[i].stands(), told[i])
		}
	}
}

// done is Do, and ran is Run, as answers.
func done(in given) answer {
	g, out, _ := Do(in.g, in.l[0])
	return answer{g, out}
}

func ran(in given) answer {
	g, out := Run(in.g, in.l)
	return answer{g, out}
}

// rich is theGate with something in each list.
func rich(how ...func(*api.Gate)) api.Gate {
	g := changed(append([]func(*api.Gate){waits(1, "ab", "ab")}, how...)...)
	for i := range g.S {
		g.S[i].C.B, g.S[i].S.B = []byte("NO"), []byte("2")
		g.S[i].G = api.Gather{Code: 220, Lines: []string{"x", "y"}}
	}
	return g
}

// events are some of each kind, of all kinds of connections.
func events() []api.Ev {
	l := []api.Ev{
		{Kind: anOpen, Conn: 20, Host: me}, {Kind: anOpen, Conn: 1}, {Kind: aTick}, {Kind: -1}, {Kind: 6},
		dialed(5, 20), dialed(12, 20), dialed(13, 20), dialed(6, 20), dialed(5, 1), {Kind: aDialed, Conn: 5}, {Kind: aDialed, Conn: 12},
		comes(20, me, 2000), comes(20, serverA, 2001), comes(20, me, 3000), comes(20, you, 2000), comes(1, me, 2000),
	}
	for _, conn := range []int{1, 2, 3, 4, 5, 6, 7, 10, 11, 12, 13, -1, 77} {
		l = append(l, closes(conn))
		for _, s := range []string{"", "x", "OP\r\nx\r\nPW", "\r\nPORT 10,0,0,1,8,0\r\n", "\r\nQUIT\r\n", "20 hi\r\n220 ok\r\n2", "27 ok (10,1,0,1,8,0)\r\n", "30 no\r\n530 no\r\nx", "20-a\r\nb\r\n", "0123456789abcdef"} {
			l = append(l, bytesOn(conn, s))
		}
	}
	return l
}

// R3: Do, of gateways of all kinds, and of all kinds of events.
func TestDoIsOnesOwn(t *testing.T) {
	gates := []api.Gate{
		theGate(), rich(), rich(roomAhead), rich(oneLink), rich(func(g *api.Gate) { g.H = nil }), rich(answering("PASV")), rich(waits(1, "a", "b", "c", "d")), rich(func(g *api.Gate) { g.Now, g.H = maxTaken, nil }),
		rich(func(g *api.Gate) {
			g.S[0].O, g.S[0].G = busy("NOOP"), api.Gather{Code: 220, Lines: []string{"x", "y"}, Open: true}
		}),
		rich(came(59, 10, 11, 10, 11)), rich(func(g *api.Gate) { g.All = nil }), rich(func(g *api.Gate) { g.C.Idle = 0 }), {},
	}
	for i, g := range gates {
		for j, e := range events() {
			checkOwn(t, fmt.Sprintf("Do of %d and %d", i, j), given{g, []api.Ev{e}}, done)
		}
	}
}

// R3: what one list is for several that are handed in is not so of what is answered.
func TestSharedIsApart(t *testing.T) {
	b, lines := []byte("ab"), []string{"x"}
	g := changed(func(g *api.Gate) {
		for i := range g.S {
			g.S[i].C.B, g.S[i].S.B, g.S[i].G.Lines = b, b, lines
		}
		g.X[1].Wait = [][]byte{b, b}
		g.X[2].Wait = g.X[1].Wait
		g.C.Tenants[1].Rules = g.C.Tenants[0].Rules
	})
	for j, e := range append(events(), api.Ev{Kind: aBytes, Conn: 13, B: b}, api.Ev{Kind: aBytes, Conn: 10, B: b}, api.Ev{Kind: aBytes, Conn: 1, B: b}) {
		for what, ask := range map[string]func() answer{
			"Do":             func() answer { return done(given{g, []api.Ev{e}}) },
			"Run":            func() answer { return ran(given{g, []api.Ev{e, e}}) },
			"Run of nothing": func() answer { return ran(given{g, nil}) },
		} {
			told := stand(ask().lists())
			for i := range told {
				apart := ask().lists()
				for k, x := range apart {
					if k != i {
						x.spoil()
					}
				}
				if apart[i].stands() != told[i] {
					t.Fatalf("%s, %d: list %d of the answer is a part of another one", what, j, i)
				}
			}
		}
	}
	if string(b) != "ab" || lines[0] != "x" {
		t.Errorf("%q, %q", b, lines)
	}
}

// R3: Run, of no events, of one, and of many.
func TestRunIsOnesOwn(t *testing.T) {
	all := events()
	for i, g := range []api.Gate{theGate(), rich(), rich(func(g *api.Gate) { g.Now = -1 }), {}} {
		for _, l := range [][]api.Ev{nil, all[:1], all[3:5], all[:9], all[40:60], all} {
			checkOwn(t, fmt.Sprintf("Run of %d", i), given{g, l}, ran)
		}
	}
}

// R3: New, of confs that may be and that may not.
func TestNewIsOnesOwn(t *testing.T) {
	confs := []api.Conf{theConf(), tenants(1), tenants(4)}
	for _, l := range wrongConfs() {
		confs = append(confs, l...)
	}
	for i, c := range confs {
		checkOwn(t, fmt.Sprintf("New of %d", i), given{g: api.Gate{C: c}}, func(in given) answer {
			g, _ := New(in.g.C)
			return answer{g: g}
		})
	}
}

// R3: those of which a question is asked stay as they were, also behind their ends.
func TestQuestionsChangeNothing(t *testing.T) {
	for _, x := range slices.Concat(mayBe, mayNotBe, others) {
		a, b := roomyOf(given{g: rich(x.how)}), roomyOf(given{g: rich(x.how)})
		was := stand(a.lists())
		May(a.g)
		if !Same(a.g, b.g) || !Same(a.g, rich(x.how)) {
			t.Errorf("%s is not the same", x.what)
		}
		if !slices.Equal(stand(a.lists()), was) || !slices.Equal(stand(b.lists()), was) {
			t.Errorf("%s: a question changed it", x.what)
		}
	}
}

// R3, R5: one gateway may go on in several ways, of which none changes another one, or what is told once more.
func TestTwoWaysOn(t *testing.T) {
	in := roomyOf(given{g: rich()})
	ask := func() [][]string {
		var all [][]string
		for _, e := range events() {
			g, out, no := Do(in.g, e)
			all = append(all, append(stand(answer{g, out}.lists()), fmt.Sprint(no)))
			for _, f := range events()[:12] {
				h, out, no := Do(g, f)
				all = append(all, append(stand(answer{h, out}.lists()), fmt.Sprint(no)))
			}
		}
		return all
	}
	first := ask()
	r := rand.New(rand.NewSource(5))
	for range 300 {
		g := someGate(r)
		Run(g, []api.Ev{someEvent(r, theGate()), someEvent(r, theGate())})
		New(someConf(r))
	}
	for i, l := range ask() {
		if !slices.Equal(l, first[i]) {
			t.Fatalf("%d: %q, was %q", i, l, first[i])
		}
	}
	if !alike(in.g, rich()) {
		t.Error(show(in.g))
	}
}

// R1: of anything at all an answer comes.
func TestAnythingEnds(t *testing.T) {
	r := rand.New(rand.NewSource(6))
	number := func() int { return int(r.Uint64()) >> r.Intn(64) }
	text := func() string { return string(chunk(r)) }
	for range 4000 {
		g := theGate()
		switch r.Intn(3) {
		case 0:
			g = api.Gate{C: theConf(), Now: number(), All: []int{number(), number()}}
		case 1:
			g.C.Pre, g.C.Life, g.C.Idle, g.C.Tenants[1].Low = number(), number(), number(), number()
		}
		for range r.Intn(3) {
			g.S = append(g.S, api.Sess{
				ID: number(), Up: number(), L: api.Login{Phase: number(), Tenant: number(), User: text()}, O: api.Order{Verb: text(), Pend: number(), Start: number()}, Cwd: text(), Hold: text(),
				Tel: number(), G: api.Gather{Code: number(), Lines: []string{text()}, Open: r.Intn(2) > 0}, Used: number(), Last: number(),
			})
			g.H = append(g.H, api.Hole{Port: number(), Sess: number(), Tenant: number(), Dead: number()})
			g.X = append(g.X, api.Link{Sess: number(), A: number(), B: number(), Wait: [][]byte{chunk(r)}})
		}
		var l []api.Ev
		for range 4 {
			l = append(l, api.Ev{Kind: r.Intn(6), Conn: pick(r, number(), r.Intn(20)), Port: pick(r, number(), r.Intn(20)), Host: me, Up: r.Intn(2) > 0, B: chunk(r), Draw: number()})
		}
		May(g)
		Same(g, theGate())
		Run(g, l)
		for _, e := range l {
			e.Kind = number()
			Do(g, e)
		}
		New(g.C)
	}
	// Very many of all kinds are told soon.
	many := theGate()
	for i := range 200000 {
		many.S = append(many.S, of(atIn, 100+2*i, 101+2*i, 0))
		many.H = append(many.H, pin)
		many.X = append(many.X, api.Link{Sess: 1, A: -1, B: -1})
	}
	if May(many) || May(api.Gate{C: theConf(), H: many.H, All: []int{0, 0}}) || May(api.Gate{C: theConf(), X: many.X, All: []int{0, 0}}) {
		t.Error("very many may be")
	}
}
