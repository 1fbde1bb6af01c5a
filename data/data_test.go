package data

import (
	"fmt"
	"math"
	"slices"
	"testing"

	"wharfinger/api"
)

// least and most are both ends of int.
const (
	least = math.MinInt
	most  = math.MaxInt
)

// conns are connections, and numbers that are none, with both ends of int, and some that are alike in their low halves.
var conns = []int{least, least + 1, -1 << 32, -5, -2, -1, 0, 1, 4, 5, 6, 7, 8, 255, 256, 65536, 1 << 31, 1 << 32, 1<<32 + 5, 1<<32 + 6, 1 << 40, 1 << 62, most - 1, most}

// chunks are chunks of their own, one of each text.
func chunks(texts ...string) [][]byte {
	var l [][]byte
	for _, s := range texts {
		l = append(l, []byte(s))
	}
	return l
}

// link is one of session 3.
func link(a, b int, wait ...string) api.Link {
	return api.Link{Sess: 3, A: a, B: b, Wait: chunks(wait...)}
}

// asked is a link whose B is asked for, and joined one whose B is there.
func asked(wait ...string) api.Link { return link(5, -1, wait...) }

func joined() api.Link { return link(5, 6) }

// full is a link in which as many chunks wait as may.
func full() api.Link { return asked("a", "bc", "d", "efg") }

// copyOf is the same link, down to its last byte, with none of its memory.
func copyOf(x api.Link) api.Link {
	var wait [][]byte
	for _, b := range x.Wait {
		c := make([]byte, len(b))
		copy(c, b)
		wait = append(wait, c)
	}
	return api.Link{Sess: x.Sess, A: x.A, B: x.B, Wait: wait}
}

// alike tells of two links part by part, and byte by byte.
func alike(x, y api.Link) bool {
	if x.Sess != y.Sess || x.A != y.A || x.B != y.B || len(x.Wait) != len(y.Wait) {
		return false
	}
	for i := range x.Wait {
		if string(x.Wait[i]) != string(y.Wait[i]) {
			return false
		}
	}
	return true
}

func allAlike(a, b []api.Link) bool {
	if len(a) != len(b) {
		return false
	}
	for i := range a {
		if !alike(a[i], b[i]) {
			return false
		}
	}
	return true
}

// outsAlike tells of what goes out part by part; a Shut has no bytes.
func outsAlike(a, b []api.Out) bool {
	if len(a) != len(b) {
		return false
	}
	for i := range a {
		if a[i].Kind != b[i].Kind || a[i].Conn != b[i].Conn || a[i].To != b[i].To || string(a[i].B) != string(b[i].B) {
			return false
		}
	}
	return true
}

// sends are the Sends of texts to a connection, in order, by numbers written out.
func sends(conn int, texts ...string) []api.Out {
	var l []api.Out
	for _, s := range texts {
		l = append(l, api.Out{Kind: 0, Conn: conn, B: []byte(s)})
	}
	return l
}

// shuts are the Shuts of connections, in order.
func shuts(conns ...int) []api.Out {
	var l []api.Out
	for _, c := range conns {
		l = append(l, api.Out{Kind: 1, Conn: c})
	}
	return l
}

// texts are chunks, as a test tells them.
func texts(l [][]byte) []string {
	s := []string{}
	for _, b := range l {
		s = append(s, fmt.Sprintf("%.20q", b))
	}
	return s
}

func show(x api.Link) string {
	return fmt.Sprintf("{%d %d %d %v}", x.Sess, x.A, x.B, texts(x.Wait))
}

func showOuts(l []api.Out) string {
	s := ""
	for _, o := range l {
		s += fmt.Sprintf("{%d %d %v %.20q}", o.Kind, o.Conn, o.To, o.B)
	}
	return "[" + s + "]"
}

// wantMay counts what is wrong, by numbers written out.
func wantMay(x api.Link) bool {
	wrong := 0
	if x.Sess < 0 {
		wrong++
	}
	if x.A < 0 {
		wrong++
	}
	if x.B < -1 {
		wrong++
	}
	if x.A == x.B {
		wrong++
	}
	if len(x.Wait) > 4 {
		wrong++
	}
	for _, b := range x.Wait {
		if x.B != -1 || len(b) == 0 {
			wrong++
		}
	}
	return wrong == 0
}

func wantHas(x api.Link, conn int) bool {
	if conn < 0 {
		return false
	}
	return slices.Contains([]int{x.A, x.B}, conn)
}

// wantCarry tells by the chapter's order; the link is changed by the rest of a list written anew.
func wantCarry(x api.Link, conn int, b string) (api.Link, []api.Out, bool) {
	y := copyOf(x)
	if !wantMay(x) {
		return y, nil, false
	}
	if !wantHas(x, conn) {
		return y, nil, false
	}
	if b == "" {
		return y, nil, true
	}
	if x.B >= 0 {
		return y, sends(x.A+x.B-conn, b), true
	}
	if len(x.Wait) > 3 {
		return y, nil, false
	}
	y.Wait = make([][]byte, len(x.Wait)+1)
	copy(y.Wait, copyOf(x).Wait)
	y.Wait[len(x.Wait)] = []byte(b)
	return y, nil, true
}

func wantJoin(x api.Link, conn int) (api.Link, []api.Out, bool) {
	if wantMay(x) && x.B == -1 && conn >= 0 && conn != x.A {
		var out []api.Out
		for _, b := range x.Wait {
			out = append(out, sends(conn, string(b))...)
		}
		return api.Link{Sess: x.Sess, A: x.A, B: conn}, out, true
	}
	return copyOf(x), nil, false
}

func wantEnd(x api.Link) []api.Out {
	if x.B < 0 {
		return shuts(x.A)
	}
	return shuts(x.A, x.B)
}

// checkStays holds a link to what it was.
func checkStays(t *testing.T, x, was api.Link) {
	t.Helper()
	if !alike(x, was) {
		t.Fatalf("what was handed in was %s, and is %s", show(was), show(x))
	}
}

func checkMay(t *testing.T, x api.Link, want bool) {
	t.Helper()
	was := copyOf(x)
	if got := May(x); got != want {
		t.Fatalf("May(%s) = %t, want %t", show(x), got, want)
	}
	if wantMay(x) != want {
		t.Fatalf("the tests' own May(%s) is not %t", show(x), want)
	}
	checkStays(t, x, was)
}

func checkHas(t *testing.T, x api.Link, conn int, want bool) {
	t.Helper()
	if got := Has(x, conn); got != want {
		t.Fatalf("Has(%s, %d) = %t, want %t", show(x), conn, got, want)
	}
	if wantHas(x, conn) != want {
		t.Fatalf("the tests' own Has(%s, %d) is not %t", show(x), conn, want)
	}
}

func checkSame(t *testing.T, a, b []api.Link, want bool) {
	t.Helper()
	if Same(a, b) != want || Same(b, a) != want {
		t.Fatalf("Same(%v, %v) = %t, and the other way around %t, want %t", a, b, Same(a, b), Same(b, a), want)
	}
	if allAlike(a, b) != want {
		t.Fatalf("the tests' own Same(%v, %v) is not %t", a, b, want)
	}
}

// P21.1: each part alone, by hand, of a link whose B is asked for, and of one whose B is there.
func TestMay(t *testing.T) {
	checkMay(t, asked(), true)
	checkMay(t, asked("a", "bc"), true)
	checkMay(t, joined(), true)
	checkMay(t, full(), true)
	checkMay(t, api.Link{B: -1}, true)
	checkMay(t, api.Link{B: 1}, true)
	checkMay(t, api.Link{A: 1}, true)
	checkMay(t, api.Link{}, false)
	for _, x := range []api.Link{asked(), full(), joined()} {
		for _, n := range []int{0, 1, 2, 7, 1 << 32, 1 << 40, 1<<40 + 1, most - 1, most} {
			y := copyOf(x)
			y.Sess = n
			checkMay(t, y, true)
		}
		for _, n := range []int{-1, -2, -3, -1 << 32, least + 1, least} {
			y, z := copyOf(x), copyOf(x)
			y.Sess = n
			checkMay(t, y, false)
			z.A = n
			checkMay(t, z, false)
		}
		for _, n := range []int{0, 1, 2, 4, 7, 1 << 32, 1<<32 + 6, most} {
			y := copyOf(x)
			y.A = n
			checkMay(t, y, true)
		}
		for _, n := range []int{-2, -3, -5, -1 << 32, least + 1, least, x.A} {
			y := copyOf(x)
			y.B = n
			checkMay(t, y, false)
		}
	}
	for _, n := range []int{-1, 0, 1, 4, 6, 1 << 32, 1<<32 + 5, most} {
		checkMay(t, link(5, n), true)
	}
}

// P21.1: B is not A, whichever number these are.
func TestMayOfTwoThatAreOne(t *testing.T) {
	for _, n := range conns {
		checkMay(t, link(n, n), false)
		checkMay(t, link(n, n, "a"), false)
		if n >= 0 && n < most {
			checkMay(t, link(n, n+1), true)
			checkMay(t, link(n+1, n), true)
		}
	}
}

// P21.1: how many wait, which may be 4 while B is asked for, and none while it is there.
func TestMayOfHowManyWait(t *testing.T) {
	for n := range 70 {
		wait := slices.Repeat([]string{"x"}, n)
		checkMay(t, asked(wait...), n <= 4)
		checkMay(t, link(0, -1, wait...), n <= 4)
		checkMay(t, link(5, 6, wait...), n == 0)
		checkMay(t, link(5, 0, wait...), n == 0)
		checkMay(t, link(5, most, wait...), n == 0)
	}
	for _, n := range []int{255, 256, 257, 260, 65536, 65540} {
		checkMay(t, api.Link{A: 5, B: -1, Wait: slices.Repeat(chunks("x"), n)}, false)
	}
}

// P21.1: no chunk is empty, wherever it stands, and however it is none. All sets of places are tried.
func TestMayOfEmptyChunks(t *testing.T) {
	for n := 1; n <= 4; n++ {
		for set := range 1 << n {
			for _, none := range [][]byte{nil, {}, make([]byte, 0, 8), []byte("ab")[:0]} {
				x := asked(slices.Repeat([]string{"x"}, n)...)
				for i := range n {
					if set>>i&1 == 1 {
						x.Wait[i] = none
					}
				}
				checkMay(t, x, set == 0)
				x.B = 6
				checkMay(t, x, false)
			}
		}
	}
	for _, b := range [][]byte{{0}, {255}, {13, 10}, make([]byte, 1), make([]byte, 70000)} {
		checkMay(t, api.Link{A: 5, B: -1, Wait: [][]byte{b, b, b, b}}, true)
	}
}

// P21.1: a list that waits and is none may be nil or empty (R6).
func TestMayOfNoneThatWait(t *testing.T) {
	for _, wait := range [][][]byte{nil, {}, make([][]byte, 0, 4)} {
		checkMay(t, api.Link{A: 5, B: -1, Wait: wait}, true)
		checkMay(t, api.Link{A: 5, B: 6, Wait: wait}, true)
		checkMay(t, api.Link{A: 5, B: 5, Wait: wait}, false)
	}
}

// P21.1, P1: all edges of all numbers together, with lists of all kinds.
func TestMayAtAllEdges(t *testing.T) {
	for _, sess := range conns {
		for _, a := range conns {
			for _, b := range conns {
				for _, wait := range [][][]byte{nil, {}, chunks("a"), chunks("a", "b", "c", "d"), chunks("a", "b", "c", "d", "e"), chunks(""), chunks("a", "")} {
					x := api.Link{Sess: sess, A: a, B: b, Wait: wait}
					checkMay(t, x, wantMay(x))
				}
			}
		}
	}
}

// P21.1: by hand.
func TestHas(t *testing.T) {
	checkHas(t, joined(), 5, true)
	checkHas(t, joined(), 6, true)
	for _, n := range []int{least, -6, -5, -2, -1, 0, 1, 2, 3, 4, 7, 11, 30, 1<<32 + 5, 1<<32 + 6, most} {
		checkHas(t, joined(), n, false)
		checkHas(t, asked("a"), n, false)
	}
	checkHas(t, asked(), 5, true)
	checkHas(t, asked(), 6, false)
	checkHas(t, asked(), -1, false)
	checkHas(t, api.Link{}, 0, true)
	checkHas(t, api.Link{A: 1}, 0, true)
	checkHas(t, api.Link{B: 1}, 0, true)
	checkHas(t, api.Link{B: -1}, 0, true)
	checkHas(t, link(1, 2), 3, false)
	checkHas(t, link(6, 5), 5, true)
	checkHas(t, link(6, 5), 6, true)
}

// P21.1: what may not be has its connections no less, but none below 0.
func TestHasOfOnesThatMayNotBe(t *testing.T) {
	checkHas(t, link(5, 5), 5, true)
	checkHas(t, link(-1, 6), 6, true)
	checkHas(t, link(-1, 6), -1, false)
	checkHas(t, link(-1, -1), -1, false)
	checkHas(t, link(-2, -2), -2, false)
	checkHas(t, link(least, most), least, false)
	checkHas(t, link(least, most), most, true)
	checkHas(t, link(5, -7), 5, true)
	checkHas(t, link(5, -7), -7, false)
	checkHas(t, link(5, 6, "a"), 5, true)
	checkHas(t, link(5, 6, "a"), 6, true)
	checkHas(t, asked("", "", "", "", ""), 5, true)
	checkHas(t, api.Link{Sess: -1, A: 5, B: 6}, 5, true)
	checkHas(t, api.Link{Sess: 9, A: 5, B: 6}, 9, false)
}

// P21.1: all edges of all three numbers.
func TestHasAtAllEdges(t *testing.T) {
	for _, a := range conns {
		for _, b := range conns {
			for _, c := range conns {
				checkHas(t, link(a, b), c, c >= 0 && (a == c || b == c))
			}
		}
	}
}

// change makes another link of one, by one part alone.
type change struct {
	name string
	make func(x *api.Link)
}

// changes lead from one in which two chunks wait to others, each part, each chunk and each byte in turn.
func changes() []change {
	all := []change{
		{"Sess", func(x *api.Link) { x.Sess++ }}, {"Sess, by 2^32", func(x *api.Link) { x.Sess += 1 << 32 }}, {"Sess, by its sign", func(x *api.Link) { x.Sess = -x.Sess }},
		{"A", func(x *api.Link) { x.A++ }}, {"A, by 2^32", func(x *api.Link) { x.A += 1 << 32 }}, {"A, by its sign", func(x *api.Link) { x.A = -x.A }},
		{"B", func(x *api.Link) { x.B++ }}, {"B, by 2^32", func(x *api.Link) { x.B += 1 << 32 }}, {"B, by its sign", func(x *api.Link) { x.B = -x.B }},
		{"A and B", func(x *api.Link) { x.A, x.B = x.B, x.A }}, {"Sess and A", func(x *api.Link) { x.Sess, x.A = x.A, x.Sess }}, {"Sess and B", func(x *api.Link) { x.Sess, x.B = x.B, x.Sess }},
		{"A, to B", func(x *api.Link) { x.A = x.B }}, {"B, to A", func(x *api.Link) { x.B = x.A }},
		{"how many wait, one less", func(x *api.Link) { x.Wait = x.Wait[:1] }}, {"the one ahead", func(x *api.Link) { x.Wait = x.Wait[1:] }},
		{"how many wait, none", func(x *api.Link) { x.Wait = nil }}, {"how many wait, one more", func(x *api.Link) { x.Wait = append(slices.Clip(x.Wait), []byte{7}) }},
		{"an empty one more", func(x *api.Link) { x.Wait = append(slices.Clip(x.Wait), []byte{}) }}, {"a nil one more", func(x *api.Link) { x.Wait = append(slices.Clip(x.Wait), nil) }},
		{"an empty one ahead", func(x *api.Link) { x.Wait = append([][]byte{{}}, x.Wait...) }},
		{"the order", func(x *api.Link) { x.Wait[0], x.Wait[1] = x.Wait[1], x.Wait[0] }},
		{"where it is cut", func(x *api.Link) { x.Wait = chunks("abc", "de") }}, {"where it is cut, once less", func(x *api.Link) { x.Wait = chunks("abcde") }},
		{"one twice", func(x *api.Link) { x.Wait[1] = x.Wait[0] }},
	}
	for i := range 2 {
		all = append(all,
			change{"a chunk, none", func(x *api.Link) { x.Wait[i] = nil }}, change{"a chunk, longer", func(x *api.Link) { x.Wait[i] = append(slices.Clip(x.Wait[i]), 0) }},
			change{"a chunk, shorter", func(x *api.Link) { x.Wait[i] = x.Wait[i][:1] }}, change{"a chunk, from its second byte on", func(x *api.Link) { x.Wait[i] = x.Wait[i][1:] }})
		for j := range 2 {
			all = append(all, change{"a byte", func(x *api.Link) { x.Wait[i][j]++ }}, change{"a byte, by its great bit", func(x *api.Link) { x.Wait[i][j] ^= 128 }}, change{"a byte, by its case", func(x *api.Link) { x.Wait[i][j] ^= 32 }})
		}
	}
	return all
}

// some is a link all of whose parts are others.
func some() api.Link { return api.Link{Sess: 3, A: 5, B: 8, Wait: chunks("ab", "cde")} }

// somes are n of these, with memory of their own.
func somes(n int) []api.Link {
	var l []api.Link
	for range n {
		l = append(l, some())
	}
	return l
}

// P21.1: lists that are the same, none being as good as nil, and ones that are longer.
func TestSame(t *testing.T) {
	checkSame(t, nil, nil, true)
	checkSame(t, nil, []api.Link{}, true)
	checkSame(t, []api.Link{}, []api.Link{}, true)
	checkSame(t, nil, []api.Link{{}}, false)
	checkSame(t, []api.Link{}, []api.Link{some()}, false)
	checkSame(t, []api.Link{{}}, []api.Link{{}}, true)
	checkSame(t, []api.Link{{}}, []api.Link{{}, {}}, false)
	var l []api.Link
	for i := range 8 {
		l = append(l, api.Link{Sess: 10 + i, A: 20 + i, B: 30 + i, Wait: chunks("ab", string(rune('a'+i)))})
	}
	for n := range len(l) + 1 {
		checkSame(t, l[:n], slices.Clone(l[:n]), true)
		checkSame(t, somes(n), somes(n), true)
		checkSame(t, somes(n), somes(n+1), false)
		for m := range n {
			checkSame(t, l[:n], l[:m], false)
			checkSame(t, l[:n], l[m+1:n], false)
			checkSame(t, l[:n], append(slices.Clone(l[:n]), l[m]), false)
			checkSame(t, l[:n], slices.Concat(l[:m], l[m+1:n]), false)
			other := slices.Clone(l[:n])
			other[m], other[0] = other[0], other[m]
			checkSame(t, l[:n], other, m == 0)
		}
	}
}

// P21.1: lists that differ in one part of one link alone, whichever that is.
func TestSameButOnePart(t *testing.T) {
	for _, x := range changes() {
		for n := 1; n <= 4; n++ {
			for at := range n {
				a, b := somes(n), somes(n)
				x.make(&b[at])
				if Same(a, b) || Same(b, a) {
					t.Fatalf("of %d, that at %d differs in %s: Same", n, at, x.name)
				}
				x.make(&a[at])
				checkSame(t, a, b, true)
			}
		}
	}
}

// P21.1, R6: a list that waits, and a chunk, is the same whether it is nil or empty, and whatever room it has; what is behind its end is not its own.
func TestSameOfNone(t *testing.T) {
	waits := [][][]byte{nil, {}, make([][]byte, 0, 3), chunks("a")[:0]}
	for _, v := range waits {
		for _, w := range waits {
			checkSame(t, []api.Link{{A: 5, B: -1, Wait: v}}, []api.Link{{A: 5, B: -1, Wait: w}}, true)
			checkSame(t, []api.Link{{A: 5, B: -1, Wait: v}}, []api.Link{{A: 5, B: 6, Wait: w}}, false)
			checkSame(t, []api.Link{{Wait: v}, some()}, []api.Link{{Wait: w}, some()}, true)
		}
		checkSame(t, []api.Link{{Wait: v}}, []api.Link{{Wait: chunks("")}}, false)
		checkSame(t, []api.Link{{Wait: v}}, []api.Link{{Wait: chunks("a")}}, false)
	}
	nones := [][]byte{nil, {}, make([]byte, 0, 3), []byte("a")[:0]}
	for _, v := range nones {
		for _, w := range nones {
			checkSame(t, []api.Link{{Wait: [][]byte{v}}}, []api.Link{{Wait: [][]byte{w}}}, true)
			checkSame(t, []api.Link{{Wait: [][]byte{v, {1}}}}, []api.Link{{Wait: [][]byte{{1}, w}}}, false)
		}
	}
}

// P21.1: order tells, and so does how often one stands there: all lists of up to three of a small set against each other.
func TestSameByOrder(t *testing.T) {
	of := []api.Link{{}, {A: 1}, {Wait: chunks("a")}, {Wait: chunks("a", "a")}, {Wait: chunks("aa")}}
	all := [][]api.Link{nil}
	for from, n := 0, 0; n < 3; n++ {
		to := len(all)
		for _, l := range all[from:to] {
			for _, x := range of {
				all = append(all, append(slices.Clip(l), x))
			}
		}
		from = to
	}
	if len(all) != 1+5+25+125 {
		t.Fatalf("%d lists", len(all))
	}
	for i, a := range all {
		for j, b := range all {
			checkSame(t, a, b, i == j)
		}
	}
}

// The bounds and kinds of the chapter are those of api.
func TestBounds(t *testing.T) {
	if api.MaxWait != 4 || api.Send != 0 || api.Shut != 1 {
		t.Error(api.MaxWait, api.Send, api.Shut)
	}
}
