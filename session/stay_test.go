package session

import (
	"fmt"
	"math/rand"
	"slices"
	"testing"

	"wharfinger/api"
)

// roomy is a list of its own, with room behind its end in which something stands that nobody may write over.
func roomy[T any](l []T, behind T) []T {
	return append(append(make([]T, 0, len(l)+2), l...), behind, behind)[:len(l)]
}

// given is what is handed in, with lists that have room.
type given struct {
	s api.Sess
	c api.Conf
	h []api.Hole
}

func roomyOf(g given) given {
	g.s.C.B, g.s.S.B = roomy(g.s.C.B, 'z'), roomy(g.s.S.B, 'z')
	g.s.G.Lines = roomy(g.s.G.Lines, "z")
	g.h = roomy(g.h, pin)
	g.c.Tenants = roomy(g.c.Tenants, api.Tenant{})
	for i, x := range g.c.Tenants {
		g.c.Tenants[i].Rules = roomy(x.Rules, api.Rule{})
	}
	return g
}

// all is everything in it, and behind its lists' ends.
func (g given) all() string {
	s := fmt.Sprintf("%+v %+v %+v %q", g.s, g.c, g.h[:cap(g.h)], [][]byte{g.s.C.B[:cap(g.s.C.B)], g.s.S.B[:cap(g.s.S.B)]})
	s += fmt.Sprintf("%q %+v", g.s.G.Lines[:cap(g.s.G.Lines)], g.c.Tenants[:cap(g.c.Tenants)])
	for _, x := range g.c.Tenants {
		s += fmt.Sprintf("%+v", x.Rules[:cap(x.Rules)])
	}
	return s
}

// spoil writes over all that can be reached.
func (g given) spoil() {
	spoilSess(g.s)
	spoilHoles(g.h)
	for _, x := range g.c.Tenants {
		clear(x.Rules[:cap(x.Rules)])
	}
	clear(g.c.Tenants[:cap(g.c.Tenants)])
}

func spoilBytes(b []byte) {
	for i := range b[:cap(b)] {
		b[:cap(b)][i] = '#'
	}
}

func spoilSess(s api.Sess) {
	spoilBytes(s.C.B)
	spoilBytes(s.S.B)
	for i := range s.G.Lines[:cap(s.G.Lines)] {
		s.G.Lines[:cap(s.G.Lines)][i] = "#"
	}
}

func spoilHoles(h []api.Hole) { clear(h[:cap(h)]) }

func (a answer) all() string { return fmt.Sprintf("%+v %+v %+v", a.s, a.h, a.out) }

// spoil writes over all lists of it but one, and tells how many there are.
func (a answer) spoil(but int) int {
	n := 0
	each := func(how func()) {
		if n != but {
			how()
		}
		n++
	}
	each(func() { spoilBytes(a.s.C.B) })
	each(func() { spoilBytes(a.s.S.B) })
	each(func() { spoilSess(api.Sess{G: a.s.G}) })
	each(func() { spoilHoles(a.h) })
	for _, o := range a.out {
		each(func() { spoilBytes(o.B) })
	}
	return n
}

// list is one list of it, as it stands.
func (a answer) list(n int) string {
	all := []string{fmt.Sprintf("%q", a.s.C.B), fmt.Sprintf("%q", a.s.S.B), fmt.Sprintf("%q", a.s.G.Lines), fmt.Sprint(a.h)}
	for _, o := range a.out {
		all = append(all, fmt.Sprintf("%q", o.B))
	}
	return all[n]
}

// checkStays holds a call to R3: what is handed in stays, whatever becomes of the answer, and the other way round; and no list of an answer is a part of another one.
func checkStays(t *testing.T, what string, g given, call func(given) answer) {
	t.Helper()
	in := roomyOf(g)
	was := in.all()
	a := call(in)
	if in.all() != was {
		t.Fatalf("%s changed what was handed in: %s, was %s", what, in.all(), was)
	}
	told := a.all()
	in.spoil()
	if a.all() != told {
		t.Fatalf("%s: the answer changed with what was handed in: %s, was %s", what, a.all(), told)
	}
	in = roomyOf(g)
	a = call(in)
	n := a.spoil(-1)
	if in.all() != was {
		t.Fatalf("%s: what was handed in changed with the answer: %s, was %s", what, in.all(), was)
	}
	for i := range n {
		a = call(roomyOf(g))
		told := a.list(i)
		a.spoil(i)
		if a.list(i) != told {
			t.Fatalf("%s: list %d of the answer is a part of another one", what, i)
		}
	}
}

// stayers are sessions of all kinds, with something in each list.
func stayers() []api.Sess {
	var all []api.Sess
	for _, phase := range phases {
		all = append(all, of(phase))
	}
	for _, o := range []api.Order{busy("CWD", 1), busy("PASV", 1), busy("EPSV", 2), busy("LIST", 8), busy("RNFR", 1)} {
		all = append(all, going(o, "/h"))
	}
	all = append(all, wrong()...)
	for i := range all {
		all[i].C, all[i].S = api.Framer{B: []byte("ab")}, api.Framer{B: []byte("cd")}
		all[i].G = api.Gather{Code: 220, Lines: []string{"x", "y"}}
	}
	for _, s := range slices.Clone(all) {
		s.G = api.Gather{Code: 220, Lines: []string{"x", "y"}, Open: true}
		all = append(all, s)
	}
	return all
}

// R3: all calls, with all kinds of sessions, and lines of all kinds.
func TestWhatIsHandedInStays(t *testing.T) {
	for i, s := range stayers() {
		g := given{s, theConf(), []api.Hole{pin, theirs}}
		checkStays(t, fmt.Sprintf("End %d", i), g, func(g given) answer {
			s, out := End(g.s)
			return answer{s: s, out: out}
		})
		for _, up := range []int{-1, 2} {
			checkStays(t, fmt.Sprintf("Dialed %d", i), g, func(g given) answer {
				s, out := Dialed(g.s, up)
				return answer{s: s, out: out}
			})
		}
		for _, h := range [][]api.Hole{{theirs}, {pin, theirs}} {
			g.h = h
			for _, text := range someLines {
				checkStays(t, fmt.Sprintf("Line %d, %s", i, text), g, func(g given) answer {
					s, h, out := line(g.s, g.c, g.h, text)
					return answer{s, h, out}
				})
			}
			for _, text := range replies {
				for _, full := range []bool{false, true} {
					checkStays(t, fmt.Sprintf("Reply %d, %s", i, text), g, func(g given) answer {
						s, h, out := Reply(g.s, g.c, g.h, api.Line{Text: text}, 5, 0, full)
						return answer{s, h, out}
					})
				}
			}
		}
		a, b := roomyOf(g), roomyOf(g)
		was := a.all()
		if !Same(a.s, b.s) || a.all() != was || b.all() != was {
			t.Errorf("Same %d changed what was handed in", i)
		}
		May(a.s)
		if a.all() != was {
			t.Errorf("May %d changed what was handed in", i)
		}
	}
}

// R3: what goes out twice is not the same memory.
func TestAnswersAreApart(t *testing.T) {
	_, a := New(1, me, 0)
	_, b := New(1, me, 0)
	spoilBytes(a[0].B)
	checkOuts(t, "New", b, said("220 Ready."))
	_, _, a = line(of(atGreet), theConf(), nil, "LIST")
	_, _, b = line(of(atGreet), theConf(), nil, "LIST")
	spoilBytes(a[0].B)
	checkOuts(t, "Line", b, said("530 Log in first."))
}

// R5: the answer hangs on nothing that was asked before.
func TestAfterOthers(t *testing.T) {
	ask := func() []string {
		var all []string
		for _, s := range stayers() {
			for i, text := range someLines {
				u, h, out := Line(s, theConf(), []api.Hole{pin}, api.Line{Text: text}, i, i)
				all = append(all, answer{u, h, out}.all())
			}
			for i, text := range replies {
				u, h, out := Reply(s, theConf(), []api.Hole{pin}, api.Line{Text: text}, i, i, i%2 > 0)
				all = append(all, answer{u, h, out}.all())
			}
			u, out := End(s)
			all = append(all, answer{s: u, out: out}.all())
			u, out = Dialed(s, 3)
			all = append(all, answer{s: u, out: out}.all(), fmt.Sprint(May(s), Same(s, u)))
		}
		return all
	}
	first := ask()
	r := rand.New(rand.NewSource(5))
	for range 2000 {
		s := someSess(r)
		Line(s, theConf(), nil, api.Line{Text: someText(r, s)}, r.Intn(9), r.Intn(9))
		Reply(s, theConf(), nil, api.Line{Text: someReply(r, s)}, r.Intn(9), r.Intn(9), false)
	}
	if !slices.Equal(ask(), first) {
		t.Error("asked again, the answers are others")
	}
}

// R1: of anything at all an answer comes.
func TestAnythingEnds(t *testing.T) {
	r := rand.New(rand.NewSource(6))
	number := func() int { return int(r.Uint64()) >> r.Intn(64) }
	text := func() string {
		b := make([]byte, r.Intn(9))
		r.Read(b)
		return string(b)
	}
	for range 20000 {
		s := api.Sess{
			ID: number(), Up: number(), L: api.Login{Phase: number(), Tenant: number(), User: text()}, O: api.Order{Verb: text(), Pend: number(), Start: number()}, Cwd: text(), Hold: text(),
			Tel: number(), G: api.Gather{Code: number(), Lines: []string{text()}, Open: r.Intn(2) > 0}, Used: number(), Last: number(),
		}
		c := theConf()
		if r.Intn(2) > 0 {
			c.Tenants[1].Low, c.Tenants[1].High, c.Life = number(), number(), number()
		}
		h := []api.Hole{{Port: number(), Sess: number(), Tenant: number(), Dead: number()}}
		x := api.Line{Text: text()}
		for _, s := range []api.Sess{s, someSess(r)} {
			Line(s, c, h, x, number(), number())
			Reply(s, c, h, x, number(), number(), true)
			Dialed(s, number())
			End(s)
			May(s)
			Same(s, s)
		}
		New(number(), me, number())
	}
	Line(api.Sess{}, api.Conf{}, nil, api.Line{}, 0, 0)
	Reply(api.Sess{}, api.Conf{}, nil, api.Line{}, 0, 0, false)
}
