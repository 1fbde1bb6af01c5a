package data

import (
	"math/rand"
	"slices"
	"strings"
	"testing"

	"wharfinger/api"
)

// walk is a link from its beginning on, with a past kept beside it: what came on A and found room, what waits of that, chunk by chunk, what went out to B, and the same of B.
type walk struct {
	x                      api.Link
	a, b                   int
	came, gone, back, home string
	wait                   []string
}

// setOut is a walk at a link whose A is a, and to whose B it will lead.
func setOut(a, b int) walk { return walk{x: api.Link{Sess: 3, A: a, B: -1}, a: a, b: b} }

// goOut takes down what went out: nothing but Sends to the two, of one each kind of bytes.
func (w *walk) goOut(t *testing.T, out []api.Out) {
	t.Helper()
	for _, o := range out {
		switch {
		case o.Kind != 0 || o.To != (api.End{}) || len(o.B) == 0:
			t.Fatalf("%s goes out", showOuts(out))
		case o.Conn == w.b && w.x.B == w.b:
			w.gone += string(o.B)
		case o.Conn == w.a:
			w.home += string(o.B)
		default:
			t.Fatalf("%s goes out of %s", showOuts(out), show(w.x))
		}
	}
}

// check holds the link to its past, and to what may be.
func (w *walk) check(t *testing.T) {
	t.Helper()
	if !May(w.x) || w.x.Sess != 3 || w.x.A != w.a || w.x.B != -1 && w.x.B != w.b {
		t.Fatalf("there is %s", show(w.x))
	}
	if w.gone+strings.Join(w.wait, "") != w.came || w.home != w.back {
		t.Fatalf("on A came %q, to B went %q, and %q wait; on B came %q, and to A went %q", w.came, w.gone, w.wait, w.back, w.home)
	}
	if !slices.EqualFunc(w.x.Wait, w.wait, func(b []byte, s string) bool { return string(b) == s }) {
		t.Fatalf("%q wait of %s", w.wait, show(w.x))
	}
}

// onA is a part that comes on A.
func (w *walk) onA(t *testing.T, s string) {
	t.Helper()
	room := s == "" || w.x.B >= 0 || len(w.wait) < 4
	x, out, is := Carry(w.x, w.a, []byte(s))
	if is != room {
		t.Fatalf("%q of A: %t", s, is)
	}
	w.x = x
	if room {
		w.came += s
	}
	if room && s != "" && x.B < 0 {
		w.wait = append(w.wait, s)
	}
	w.goOut(t, out)
	w.check(t)
}

// onB is a part that comes on B, which has room as soon as B is there.
func (w *walk) onB(t *testing.T, s string) {
	t.Helper()
	x, out, is := Carry(w.x, w.b, []byte(s))
	if is != (w.x.B >= 0) {
		t.Fatalf("%q of B: %t", s, is)
	}
	w.x = x
	if is {
		w.back += s
	}
	w.goOut(t, out)
	w.check(t)
}

// onNone is a part that comes on none of both.
func (w *walk) onNone(t *testing.T, conn int, s string) {
	t.Helper()
	x, out, is := Carry(w.x, conn, []byte(s))
	if is || len(out) != 0 || !alike(x, w.x) {
		t.Fatalf("of %d: %s, %s, %t", conn, show(x), showOuts(out), is)
	}
	w.x = x
	w.check(t)
}

// join is somebody that would be B. All that waited goes out at once, a Send each.
func (w *walk) join(t *testing.T, conn int) {
	t.Helper()
	may := w.x.B < 0 && conn >= 0 && conn != w.a
	x, out, is := Join(w.x, conn)
	if is != may || !may && (!alike(x, w.x) || len(out) != 0) {
		t.Fatalf("%d joins: %s, %s, %t", conn, show(x), showOuts(out), is)
	}
	w.x = x
	if may {
		if !outsAlike(out, sends(conn, w.wait...)) {
			t.Fatalf("%q waited, and %s goes out", w.wait, showOuts(out))
		}
		w.b, w.wait = conn, nil
	}
	w.goOut(t, out)
	w.check(t)
}

// ended holds what goes out at its end to who is there.
func (w *walk) ended(t *testing.T) {
	t.Helper()
	want := shuts(w.a)
	if w.x.B >= 0 {
		want = shuts(w.a, w.b)
	}
	checkEnd(t, w.x, want)
}

// number is a part that is told apart from all others by its number, i + 1 bytes or so long.
func number(i int) string {
	return strings.Repeat(string([]byte{byte('a' + i%26), byte(i)}), 1+i%3)
}

// P21.4: many parts come on A, and B comes at each moment among them: up to 4 wait, those behind them find no room till then, and all that found room goes to B, in order, each byte once.
func TestEachMoment(t *testing.T) {
	const parts = 40
	for moment := range parts + 1 {
		w := setOut(5, 6)
		want := ""
		for i := range parts {
			if i == moment {
				w.join(t, 6)
			}
			w.onA(t, number(i))
			if i < 4 || i >= moment {
				want += number(i)
			}
		}
		if moment == parts {
			w.join(t, 6)
		}
		if w.came != want || w.gone != want {
			t.Fatalf("B comes at %d: came %q, went %q, want %q", moment, w.came, w.gone, want)
		}
		w.ended(t)
	}
}

// P21.4: what has one's own bytes in common goes no less, and so do parts that are none, among others, at each moment.
func TestEachMomentOfAlikeParts(t *testing.T) {
	for _, parts := range [][]string{
		{"a", "a", "a", "a"}, {"", "", "", "", "", ""}, {"a", "", "b", "", "c", "", "d", "", "e"}, {"", "aa", "a", "", "aaa"}, {"\x00", "\x00\x00", "\x00"}, {"abc", "ab", "a", ""}, {"a", "b", "c", "d", "", "", ""},
	} {
		for moment := range len(parts) + 1 {
			w := setOut(0, most)
			for i, s := range parts {
				if i == moment {
					w.join(t, most)
				}
				w.onA(t, s)
				w.onB(t, s)
			}
			w.join(t, most)
			if w.gone != w.came || w.x.B != most {
				t.Fatalf("B comes at %d: came %q, went %q", moment, w.came, w.gone)
			}
			w.ended(t)
		}
	}
}

// P21.4: one text, cut in all ways, B coming at each moment: as long as there is room all of it goes to B.
func TestAllCuts(t *testing.T) {
	const text = "abcdefgh"
	for set := range 1 << (len(text) - 1) {
		var parts []string
		from := 0
		for i := 1; i <= len(text); i++ {
			if i == len(text) || set>>(i-1)&1 == 1 {
				parts = append(parts, text[from:i])
				from = i
			}
		}
		for moment := range min(len(parts), 4) + 1 {
			w := setOut(5, 6)
			for i, s := range parts {
				if i == moment {
					w.join(t, 6)
				}
				w.onA(t, s)
			}
			w.join(t, 6)
			if w.gone != text || w.came != text {
				t.Fatalf("%q, B comes at %d: %q", parts, moment, w.gone)
			}
		}
	}
}

// steps are what may happen to a link whose A is 5 and to whose B 6 comes.
func steps() []func(t *testing.T, w *walk) {
	return []func(t *testing.T, w *walk){
		func(t *testing.T, w *walk) { w.onA(t, "xy") },
		func(t *testing.T, w *walk) { w.onA(t, number(len(w.came))) },
		func(t *testing.T, w *walk) { w.onA(t, "") },
		func(t *testing.T, w *walk) { w.onB(t, number(len(w.back))) },
		func(t *testing.T, w *walk) { w.onNone(t, 7, "z") },
		func(t *testing.T, w *walk) { w.join(t, 6) },
		func(t *testing.T, w *walk) { w.join(t, 5) },
		func(t *testing.T, w *walk) { w.join(t, -1) },
		func(t *testing.T, w *walk) { w.ended(t) },
	}
}

// P21.4: all short orders of steps, from an empty link on, and from one in which 3 wait.
func TestAllShortOrders(t *testing.T) {
	all := steps()
	var more func(w walk, n int)
	more = func(w walk, n int) {
		if n == 0 {
			return
		}
		for _, step := range all {
			v := w
			v.wait = slices.Clone(w.wait)
			step(t, &v)
			more(v, n-1)
		}
	}
	more(setOut(5, 6), 5)
	w := setOut(5, 6)
	for i := range 3 {
		w.onA(t, number(i))
	}
	more(w, 5)
}

// P21.4: long walks by chance, over many links at once, of which none changes another one.
func TestWalksByChance(t *testing.T) {
	r := rand.New(rand.NewSource(1))
	for range 200 {
		var all []walk
		for i := range 5 {
			all = append(all, setOut(2*i, 2*i+1))
		}
		for range 150 {
			w := &all[r.Intn(len(all))]
			b := make([]byte, r.Intn(20)*r.Intn(2))
			r.Read(b)
			switch r.Intn(12) {
			case 0:
				w.join(t, w.b)
			case 1:
				w.join(t, []int{-1, w.a, least, w.b}[r.Intn(4)])
			case 2:
				w.onNone(t, 100+r.Intn(3), string(b))
			case 3, 4, 5:
				w.onB(t, string(b))
			default:
				w.onA(t, string(b))
			}
		}
		for i := range all {
			all[i].check(t)
			all[i].join(t, all[i].b)
			if all[i].gone != all[i].came {
				t.Fatalf("came %q, went %q", all[i].came, all[i].gone)
			}
			all[i].ended(t)
		}
	}
}

// anyLink may be mostly. Few numbers make that they meet.
func anyLink(r *rand.Rand) api.Link {
	x := api.Link{Sess: r.Intn(3), A: r.Intn(4), B: r.Intn(5) - 1}
	if r.Intn(2) == 0 {
		x.B = -1
	}
	if x.B == -1 || r.Intn(8) == 0 {
		for range r.Intn(6) {
			b := make([]byte, r.Intn(5))
			if len(b) == 0 && r.Intn(4) > 0 {
				b = make([]byte, 1)
			}
			r.Read(b)
			x.Wait = append(x.Wait, b)
		}
	}
	if r.Intn(12) == 0 {
		x.Sess = -1
	}
	if r.Intn(12) == 0 {
		x.A = conns[r.Intn(len(conns))]
	}
	if r.Intn(12) == 0 {
		x.B = conns[r.Intn(len(conns))]
	}
	return x
}

// P21.1, P21.2, P21.3: links by chance, against the tests' own.
func TestChance(t *testing.T) {
	r := rand.New(rand.NewSource(2))
	may, room, joins := 0, 0, 0
	for range 200000 {
		x, conn := anyLink(r), r.Intn(6)-1
		b := make([]byte, r.Intn(4))
		r.Read(b)
		checkMay(t, x, wantMay(x))
		checkHas(t, x, conn, wantHas(x, conn))
		want := told(wantCarry(x, conn, string(b)))
		checkCarry(t, x, conn, b, want)
		join := told(wantJoin(x, conn))
		checkJoin(t, x, conn, join)
		checkEnd(t, x, wantEnd(x))
		y := copyOf(x)
		if r.Intn(2) == 0 {
			y = anyLink(r)
		}
		checkSame(t, []api.Link{x, y}, []api.Link{y, x}, alike(x, y))
		may, room, joins = may+one(wantMay(x)), room+one(want.is), joins+one(join.is)
	}
	if may < 50000 || room < 20000 || joins < 20000 {
		t.Fatalf("chance made too few: %d that may be, %d with room, %d that join", may, room, joins)
	}
}

func one(is bool) int {
	if is {
		return 1
	}
	return 0
}

// P21.4: what may be stays so, and what may not stays as it was, whatever is called of links by chance.
func TestWhatMayBeStaysSo(t *testing.T) {
	r := rand.New(rand.NewSource(3))
	for range 200000 {
		x, conn := anyLink(r), r.Intn(7)-1
		b := make([]byte, r.Intn(3))
		was := May(x)
		y, _, _ := Carry(x, conn, b)
		z, _, _ := Join(x, conn)
		if May(y) != was || May(z) != was {
			t.Fatalf("%s: %t; behind Carry of %d %s, behind Join %s", show(x), was, conn, show(y), show(z))
		}
	}
}
