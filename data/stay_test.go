package data

import (
	"fmt"
	"slices"
	"testing"

	"wharfinger/api"
)

// roomy is a list of its own, with room behind its end in which something stands that nobody may write over.
func roomy[T any](l []T, behind T) []T {
	return append(append(make([]T, 0, len(l)+2), l...), behind, behind)[:len(l)]
}

// given is what is handed in, with lists that have room.
type given struct {
	x    api.Link
	conn int
	b    []byte
}

// roomyOf is the same in memory of its own. Chunks that wait twice are one and the same memory, as one may hand in such a list.
func roomyOf(g given) given {
	x := copyOf(g.x)
	for i, b := range x.Wait {
		x.Wait[i] = roomy(b, 'z')
	}
	if len(x.Wait) > 1 && string(x.Wait[0]) == string(x.Wait[1]) {
		x.Wait[1] = x.Wait[0]
	}
	x.Wait = roomy(x.Wait, []byte("zz"))
	return given{x, g.conn, roomy(g.b, 'z')}
}

// all is everything in it, also behind its lists' ends.
func (g given) all() string {
	s := fmt.Sprintf("%d %d %d %q", g.x.Sess, g.x.A, g.x.B, g.b[:cap(g.b)])
	for _, b := range g.x.Wait[:cap(g.x.Wait)] {
		s += fmt.Sprintf(" %d %q", len(b), b[:cap(b)])
	}
	return s
}

// spoil writes over all that can be reached of it.
func (g given) spoil() {
	spoilBytes(g.b)
	for _, b := range g.x.Wait[:cap(g.x.Wait)] {
		spoilBytes(b)
	}
	spoilChunks(g.x.Wait)
}

func spoilBytes(b []byte) {
	for i := range b[:cap(b)] {
		b[:cap(b)][i] = '#'
	}
}

func spoilChunks(l [][]byte) {
	for i := range l[:cap(l)] {
		l[:cap(l)][i] = []byte("##")
	}
}

// all is everything in an answer.
func (a answer) all() string { return show(a.x) + showOuts(a.out) + fmt.Sprint(a.is) }

// lists are all lists of an answer.
func (a answer) lists() []listed {
	all := []listed{{func() string { return fmt.Sprint(texts(a.x.Wait)) }, func() { spoilChunks(a.x.Wait) }, false}}
	for _, b := range slices.Clone(a.x.Wait) {
		all = append(all, ofBytes(b))
	}
	all = append(all, listed{func() string { return showOuts(a.out) }, func() { clear(a.out[:cap(a.out)]) }, false})
	for _, o := range slices.Clone(a.out) {
		all = append(all, ofBytes(o.B))
	}
	return all
}

// listed is one list of an answer: how it stands, how it is written over, and whether it is one of bytes, and so made of no other ones.
type listed struct {
	stands  func() string
	spoil   func()
	isBytes bool
}

func ofBytes(b []byte) listed {
	return listed{func() string { return fmt.Sprintf("%q", b) }, func() { spoilBytes(b) }, true}
}

// checkOwn holds a call to R3: what is handed in stays, whatever becomes of the answer, and the other way round; and no list of bytes of an answer is a part of another one.
func checkOwn(t *testing.T, what string, g given, call func(given) answer) {
	t.Helper()
	in := roomyOf(g)
	was := in.all()
	a := call(in)
	if in.all() != was {
		t.Fatalf("%s changed what was handed in: %s, was %s", what, in.all(), was)
	}
	told := a.all()
	in.spoil()
	if a.all() != told {
		t.Fatalf("%s: the answer changed with what was handed in: %s, was %s", what, a.all(), told)
	}
	in = roomyOf(g)
	for _, l := range call(in).lists() {
		l.spoil()
	}
	if in.all() != was {
		t.Fatalf("%s: what was handed in changed with the answer: %s, was %s", what, in.all(), was)
	}
	for i, l := range a.lists() {
		if l.isBytes {
			checkApart(t, what, call(roomyOf(g)).lists(), i)
		}
	}
}

// checkApart writes over all lists but one, to their last room, and holds that one to what it was.
func checkApart(t *testing.T, what string, lists []listed, but int) {
	t.Helper()
	was := lists[but].stands()
	for i, l := range lists {
		if i != but {
			l.spoil()
		}
	}
	if lists[but].stands() != was {
		t.Fatalf("%s: list %d of the answer is a part of another one: %s, was %s", what, but, lists[but].stands(), was)
	}
}

func carried(g given) answer { return told(Carry(g.x, g.conn, g.b)) }

func joinedTo(g given) answer { return told(Join(g.x, g.conn)) }

func over(g given) answer { return answer{out: End(g.x)} }

// stayers are links of all kinds, also such as may not be, with chunks that are alike.
func stayers() []api.Link {
	return slices.Concat(wrong(), []api.Link{
		asked(), asked("ab"), asked("ab", "ab"), asked("ab", "c", "ab"), full(), asked("x", "x", "x", "x"), joined(), link(6, 5), link(0, -1, "a"), link(0, 1),
	})
}

// R3: all calls, of all kinds of links, and bytes of all kinds.
func TestAnswersAreOnesOwn(t *testing.T) {
	for _, x := range stayers() {
		for _, conn := range []int{-2, -1, 0, 1, 5, 6, 7} {
			for _, b := range []string{"", "a", "ab", "xyz"} {
				g := given{x, conn, []byte(b)}
				checkOwn(t, "Carry of "+show(x), g, carried)
				checkOwn(t, "Join of "+show(x), g, joinedTo)
				checkOwn(t, "End of "+show(x), g, over)
			}
		}
	}
}

// R3: bytes that are handed in and are also those that wait are no less the caller's own, and hold apart.
func TestBytesThatWaitAlready(t *testing.T) {
	x := asked("ab", "cd")
	y, _, is := Carry(x, 5, x.Wait[0])
	if !is || !alike(y, asked("ab", "cd", "ab")) {
		t.Fatal(show(y), is)
	}
	spoilBytes(y.Wait[2])
	if !alike(y, asked("ab", "cd", "##")) || !alike(x, asked("ab", "cd")) {
		t.Fatal(show(y), show(x))
	}
}

// R3: what is told of one link twice holds apart, also where its lists have room.
func TestTwoOfOne(t *testing.T) {
	in := roomyOf(given{asked("ab"), 5, []byte("c")})
	first, second := carried(in), told(Carry(in.x, 5, []byte("d")))
	if !alike(first.x, asked("ab", "c")) || !alike(second.x, asked("ab", "d")) {
		t.Fatal(show(first.x), show(second.x))
	}
	third, fourth := told(Carry(first.x, 5, []byte("e"))), told(Carry(first.x, 5, []byte("f")))
	if !alike(third.x, asked("ab", "c", "e")) || !alike(fourth.x, asked("ab", "c", "f")) {
		t.Fatal(show(third.x), show(fourth.x))
	}
	for _, l := range third.lists() {
		l.spoil()
	}
	if !alike(first.x, asked("ab", "c")) || !alike(fourth.x, asked("ab", "c", "f")) {
		t.Fatal(show(first.x), show(fourth.x))
	}
	a, b := told(Join(first.x, 6)), told(Join(first.x, 7))
	spoilBytes(a.out[0].B)
	if !outsAlike(b.out, sends(7, "ab", "c")) || !alike(first.x, asked("ab", "c")) {
		t.Fatal(showOuts(b.out), show(first.x))
	}
}

// R3: those of which a question is asked stay as they were, also behind their ends.
func TestQuestionsChangeNothing(t *testing.T) {
	for _, x := range stayers() {
		in, other := roomyOf(given{x: x}), roomyOf(given{x: x})
		was := in.all()
		l, m := roomy([]api.Link{in.x}, asked("q")), roomy([]api.Link{other.x}, asked("q"))
		May(in.x)
		Has(in.x, 5)
		if !Same(l, m) {
			t.Fatalf("%s is not the same", show(x))
		}
		if in.all() != was || other.all() != was || !alike(l[:2][1], asked("q")) || !alike(m[:2][1], asked("q")) {
			t.Fatalf("%s changed", show(x))
		}
	}
}

// R5: nothing hangs on what was asked before.
func TestAfterOthers(t *testing.T) {
	for _, before := range stayers() {
		for range 3 {
			for _, conn := range []int{5, 6, 0} {
				Carry(before, conn, []byte("ab"))
				Join(before, conn)
				May(before)
				Same([]api.Link{before}, []api.Link{before, before})
			}
		}
		End(before)
		checkCarry(t, asked("x"), 5, []byte("ab"), answer{asked("x", "ab"), nil, true})
		checkJoin(t, asked("x"), 6, answer{joined(), sends(6, "x"), true})
		checkCarry(t, joined(), 6, []byte("ab"), answer{joined(), sends(5, "ab"), true})
		checkEnd(t, joined(), shuts(5, 6))
	}
}
