package data

import (
	"slices"
	"testing"

	"wharfinger/api"
)

// answer is what Carry and Join tell.
type answer struct {
	x   api.Link
	out []api.Out
	is  bool
}

func told(x api.Link, out []api.Out, is bool) answer { return answer{x, out, is} }

// checkAnswer holds an answer to one that is wanted.
func checkAnswer(t *testing.T, what string, got, want answer) {
	t.Helper()
	if !alike(got.x, want.x) || !outsAlike(got.out, want.out) || got.is != want.is {
		t.Fatalf("%s = %s, %s, %t, want %s, %s, %t", what, show(got.x), showOuts(got.out), got.is, show(want.x), showOuts(want.out), want.is)
	}
}

// checkCarry holds Carry to what is wanted, and to the tests' own, and what is handed in to what it was.
func checkCarry(t *testing.T, x api.Link, conn int, b []byte, want answer) {
	t.Helper()
	was, text := copyOf(x), string(b)
	got := told(Carry(x, conn, b))
	what := "Carry(" + show(was) + ", " + showOuts(sends(conn, text)) + ")"
	checkAnswer(t, what, got, want)
	checkAnswer(t, "the tests' own "+what, told(wantCarry(was, conn, text)), want)
	checkStays(t, x, was)
	if string(b) != text {
		t.Fatalf("%s changed the bytes", what)
	}
}

// checkJoin does so with Join.
func checkJoin(t *testing.T, x api.Link, conn int, want answer) {
	t.Helper()
	was := copyOf(x)
	got := told(Join(x, conn))
	what := "Join(" + show(was) + ", " + showOuts(sends(conn, "")) + ")"
	checkAnswer(t, what, got, want)
	checkAnswer(t, "the tests' own "+what, told(wantJoin(was, conn)), want)
	checkStays(t, x, was)
}

func checkEnd(t *testing.T, x api.Link, want []api.Out) {
	t.Helper()
	was := copyOf(x)
	if got := End(x); !outsAlike(got, want) {
		t.Fatalf("End(%s) = %s, want %s", show(was), showOuts(got), showOuts(want))
	}
	if !outsAlike(wantEnd(was), want) {
		t.Fatalf("the tests' own End(%s) is not %s", show(was), showOuts(want))
	}
	checkStays(t, x, was)
}

// refused is a link as it was, with nothing and false; idle is it with nothing and true.
func refused(x api.Link) answer { return answer{copyOf(x), nil, false} }

func idle(x api.Link) answer { return answer{copyOf(x), nil, true} }

// wrong are links that may not be, by one part alone or by more.
func wrong() []api.Link {
	return []api.Link{
		{}, {Sess: -1, A: 5, B: -1}, {Sess: -1, A: 5, B: 6}, {Sess: least, A: 5, B: -1, Wait: chunks("a")},
		link(-1, -1), link(-1, 6), link(-5, 6), link(least, 6), link(-2, -1, "a"),
		link(5, -2), link(5, -6), link(5, least), link(5, -2, "a"), link(5, 5), link(5, 5, "a"),
		asked("a", "b", "c", "d", "e"), asked("a", "b", "c", "d", "e", "f"), asked("", "b", "c", "d", "e"),
		asked(""), asked("", "b", "c", "d"), asked("a", "b", "c", ""), asked("a", "", "c"), asked("", "", "", ""),
		link(5, 6, "a"), link(5, 6, "a", "b", "c", "d"), link(5, 6, ""), link(5, 0, "a"), link(5, most, "a"),
		{A: 5, B: -1, Wait: [][]byte{nil}}, {A: 5, B: 6, Wait: [][]byte{nil}}, {A: 5, B: 6, Wait: [][]byte{{}}},
	}
}

// The chapter's example: ab comes on A while B is asked for, and waits; then B is there, and ab goes to it.
func TestExample(t *testing.T) {
	x, out, is := Carry(api.Link{Sess: 1, A: 5, B: -1}, 5, []byte("ab"))
	if !is || len(out) != 0 || len(x.Wait) != 1 || string(x.Wait[0]) != "ab" || x.Sess != 1 || x.A != 5 || x.B != -1 {
		t.Fatal(show(x), showOuts(out), is)
	}
	x, out, is = Join(x, 6)
	if !is || len(out) != 1 || out[0].Kind != api.Send || out[0].Conn != 6 || string(out[0].B) != "ab" {
		t.Fatal(show(x), showOuts(out), is)
	}
	if x.Sess != 1 || x.A != 5 || x.B != 6 || len(x.Wait) != 0 {
		t.Fatal(show(x))
	}
}

// P21.2: of A, while B is asked for, what comes stands behind what waits, and nothing goes out; while 4 wait there is no room.
func TestCarryWhileAsked(t *testing.T) {
	ab := []byte("ab")
	checkCarry(t, asked(), 5, ab, answer{asked("ab"), nil, true})
	checkCarry(t, asked("x"), 5, ab, answer{asked("x", "ab"), nil, true})
	checkCarry(t, asked("x", "yz"), 5, ab, answer{asked("x", "yz", "ab"), nil, true})
	checkCarry(t, asked("x", "yz", "w"), 5, ab, answer{asked("x", "yz", "w", "ab"), nil, true})
	checkCarry(t, asked("ab", "ab", "ab"), 5, ab, answer{asked("ab", "ab", "ab", "ab"), nil, true})
	checkCarry(t, full(), 5, ab, refused(full()))
	checkCarry(t, asked("ab", "ab", "ab", "ab"), 5, ab, refused(asked("ab", "ab", "ab", "ab")))
	checkCarry(t, full(), 5, []byte{0}, refused(full()))
	checkCarry(t, link(0, -1), 0, ab, answer{link(0, -1, "ab"), nil, true})
	checkCarry(t, link(most, -1, "x"), most, ab, answer{link(most, -1, "x", "ab"), nil, true})
	checkCarry(t, api.Link{Sess: most, A: 5, B: -1, Wait: [][]byte{}}, 5, ab, answer{api.Link{Sess: most, A: 5, B: -1, Wait: chunks("ab")}, nil, true})
}

// P21.2: once B is there what comes of either goes out to the other one, and the link stays as it was.
func TestCarryWhileJoined(t *testing.T) {
	checkCarry(t, joined(), 5, []byte("ab"), answer{joined(), sends(6, "ab"), true})
	checkCarry(t, joined(), 6, []byte("ab"), answer{joined(), sends(5, "ab"), true})
	checkCarry(t, link(6, 5), 5, []byte("ab"), answer{link(6, 5), sends(6, "ab"), true})
	checkCarry(t, link(6, 5), 6, []byte("ab"), answer{link(6, 5), sends(5, "ab"), true})
	checkCarry(t, link(0, 1), 0, []byte("a"), answer{link(0, 1), sends(1, "a"), true})
	checkCarry(t, link(0, 1), 1, []byte("a"), answer{link(0, 1), sends(0, "a"), true})
	checkCarry(t, link(1, 0), 1, []byte("a"), answer{link(1, 0), sends(0, "a"), true})
	checkCarry(t, link(1, 0), 0, []byte("a"), answer{link(1, 0), sends(1, "a"), true})
	checkCarry(t, link(0, most), most, []byte("a"), answer{link(0, most), sends(0, "a"), true})
	checkCarry(t, link(0, most), 0, []byte("a"), answer{link(0, most), sends(most, "a"), true})
	checkCarry(t, api.Link{Sess: 5, A: 6, B: 7, Wait: [][]byte{}}, 7, []byte("a"), answer{api.Link{Sess: 5, A: 6, B: 7}, sends(6, "a"), true})
}

// P21.2: each byte is as good as any other one, and so is any number of them.
func TestCarryOfAllBytes(t *testing.T) {
	for b := range 256 {
		one, two := []byte{byte(b)}, []byte{byte(b), 0, byte(255 - b)}
		for _, c := range [][]byte{one, two} {
			checkCarry(t, asked("x"), 5, c, answer{asked("x", string(c)), nil, true})
			checkCarry(t, joined(), 5, c, answer{joined(), sends(6, string(c)), true})
			checkCarry(t, joined(), 6, c, answer{joined(), sends(5, string(c)), true})
		}
	}
	for _, n := range []int{1, 2, 3, 4, 5, 8, 255, 256, 511, 512, 513, 4096, 65535, 65536, 1 << 20} {
		c := make([]byte, n)
		for i := range c {
			c[i] = byte(i * 7)
		}
		checkCarry(t, asked(string(c)), 5, c, answer{asked(string(c), string(c)), nil, true})
		checkCarry(t, joined(), 5, c, answer{joined(), sends(6, string(c)), true})
		checkCarry(t, joined(), 6, c, answer{joined(), sends(5, string(c)), true})
		checkJoin(t, asked(string(c), "x"), 6, answer{joined(), sends(6, string(c), "x"), true})
	}
}

// P21.2: of no bytes there is always room, at each of both, and also while 4 wait; they neither wait nor go out.
func TestCarryOfNothing(t *testing.T) {
	for _, b := range [][]byte{nil, {}, make([]byte, 0, 9), []byte("ab")[:0], []byte("ab")[2:]} {
		for _, x := range []api.Link{asked(), asked("a"), asked("a", "b", "c"), full(), joined(), {A: 5, B: -1, Wait: [][]byte{}}} {
			checkCarry(t, x, 5, b, idle(x))
			for _, conn := range []int{-1, -2, 0, 7, most, least} {
				checkCarry(t, x, conn, b, refused(x))
			}
		}
		checkCarry(t, joined(), 6, b, idle(joined()))
		checkCarry(t, full(), 6, b, refused(full()))
		for _, x := range wrong() {
			for _, conn := range []int{x.A, x.B, -1, 0, 5, 6} {
				checkCarry(t, x, conn, b, refused(x))
			}
		}
	}
}

// P21.2: of a connection that it has not, there is no room, and the link stays as it was.
func TestCarryOfOthers(t *testing.T) {
	for _, x := range []api.Link{asked(), asked("a", "bc"), full(), joined(), link(6, 5), link(0, -1), link(0, 1), link(1<<32, 1<<33)} {
		for _, conn := range conns {
			if conn < 0 || conn != x.A && conn != x.B {
				checkCarry(t, x, conn, []byte("ab"), refused(x))
			}
		}
		checkCarry(t, x, x.Sess, []byte("ab"), refused(x))
		checkCarry(t, x, len(x.Wait)+10, []byte("ab"), refused(x))
	}
}

// P21.2: of what may not be, there is no room, whoever it is, and all of it stays as it was.
func TestCarryOfOnesThatMayNotBe(t *testing.T) {
	for _, x := range wrong() {
		checkMay(t, x, false)
		for _, conn := range append([]int{x.A, x.B, x.Sess}, conns...) {
			checkCarry(t, x, conn, []byte("ab"), refused(x))
		}
	}
}

// P21.3: what waits goes to who is there, one Send a chunk, in order, and waits no more.
func TestJoin(t *testing.T) {
	checkJoin(t, asked(), 6, answer{joined(), nil, true})
	checkJoin(t, asked("a"), 6, answer{joined(), sends(6, "a"), true})
	checkJoin(t, asked("a", "bc"), 6, answer{joined(), sends(6, "a", "bc"), true})
	checkJoin(t, asked("c", "b", "a"), 6, answer{joined(), sends(6, "c", "b", "a"), true})
	checkJoin(t, full(), 6, answer{joined(), sends(6, "a", "bc", "d", "efg"), true})
	checkJoin(t, asked("a", "a", "a", "a"), 6, answer{joined(), sends(6, "a", "a", "a", "a"), true})
	checkJoin(t, asked("\x00", "\xff\x00", "\r\n"), 6, answer{joined(), sends(6, "\x00", "\xff\x00", "\r\n"), true})
	checkJoin(t, full(), 0, answer{link(5, 0), sends(0, "a", "bc", "d", "efg"), true})
	checkJoin(t, full(), most, answer{link(5, most), sends(most, "a", "bc", "d", "efg"), true})
	checkJoin(t, link(0, -1, "a"), 1, answer{link(0, 1), sends(1, "a"), true})
	checkJoin(t, api.Link{Sess: 7, A: 5, B: -1, Wait: [][]byte{}}, 7, answer{api.Link{Sess: 7, A: 5, B: 7}, nil, true})
}

// P21.3: nobody joins by a number below 0, and nobody joins itself; all others do.
func TestJoinOfAll(t *testing.T) {
	for _, a := range conns {
		if a < 0 {
			continue
		}
		for _, conn := range conns {
			for _, wait := range [][]string{nil, {"a"}, {"a", "bc", "d", "efg"}} {
				x := link(a, -1, wait...)
				if conn < 0 || conn == a {
					checkJoin(t, x, conn, refused(x))
				} else {
					checkJoin(t, x, conn, answer{link(a, conn), sends(conn, wait...), true})
				}
			}
		}
	}
}

// P21.3: nobody joins where B is there, nor what may not be, and all of it stays as it was.
func TestJoinOfNone(t *testing.T) {
	for _, conn := range append([]int{5, 6, 7}, conns...) {
		for _, x := range []api.Link{joined(), link(6, 5), link(0, 1), link(1, 0), link(5, most)} {
			checkMay(t, x, true)
			checkJoin(t, x, conn, refused(x))
		}
		for _, x := range wrong() {
			checkJoin(t, x, conn, refused(x))
			checkJoin(t, x, x.A, refused(x))
			checkJoin(t, x, x.B, refused(x))
		}
	}
}

// P21.3: nobody joins twice.
func TestJoinOnce(t *testing.T) {
	x, out, is := Join(full(), 6)
	if !is || len(out) != 4 {
		t.Fatal(show(x), showOuts(out), is)
	}
	for _, conn := range []int{6, 7, 5, -1} {
		checkJoin(t, x, conn, refused(joined()))
	}
}

// P21.3: the Shut of A, and then that of B, where it is there; whatever waits.
func TestEnd(t *testing.T) {
	checkEnd(t, joined(), shuts(5, 6))
	checkEnd(t, link(6, 5), shuts(6, 5))
	checkEnd(t, link(5, 0), shuts(5, 0))
	checkEnd(t, link(0, 5), shuts(0, 5))
	checkEnd(t, link(0, most), shuts(0, most))
	checkEnd(t, asked(), shuts(5))
	checkEnd(t, full(), shuts(5))
	checkEnd(t, link(0, -1), shuts(0))
	checkEnd(t, link(most, -1, "a"), shuts(most))
}

// P21.3: of what may not be the same goes out, as only B's number is asked for.
func TestEndOfOnesThatMayNotBe(t *testing.T) {
	checkEnd(t, api.Link{}, shuts(0, 0))
	checkEnd(t, link(5, 5), shuts(5, 5))
	checkEnd(t, link(-1, -1), shuts(-1))
	checkEnd(t, link(-1, 6), shuts(-1, 6))
	checkEnd(t, link(5, -2), shuts(5))
	checkEnd(t, link(5, least), shuts(5))
	checkEnd(t, link(5, 6, "a"), shuts(5, 6))
	checkEnd(t, api.Link{Sess: -1, A: 5, B: 6}, shuts(5, 6))
	for _, a := range conns {
		for _, b := range conns {
			x := link(a, b, "a")
			checkEnd(t, x, wantEnd(x))
		}
	}
}

// P21.2, P21.3, P1: all edges of all numbers together, with lists of all kinds, as may be or not.
func TestAllEdges(t *testing.T) {
	waits := [][][]byte{nil, {}, chunks("a"), chunks("a", "b", "c"), chunks("a", "b", "c", "d"), chunks("a", "b", "c", "d", "e"), chunks("")}
	few := []int{least, -2, -1, 0, 1, 5, 6, most}
	for _, sess := range []int{least, -1, 0, most} {
		for _, a := range few {
			for _, b := range few {
				for _, conn := range few {
					for i := range waits {
						x := api.Link{Sess: sess, A: a, B: b, Wait: waits[i]}
						checkCarry(t, x, conn, nil, told(wantCarry(x, conn, "")))
						checkCarry(t, x, conn, []byte("xy"), told(wantCarry(x, conn, "xy")))
						checkJoin(t, x, conn, told(wantJoin(x, conn)))
						checkEnd(t, x, wantEnd(x))
					}
				}
			}
		}
	}
}

// R4, P1: beside a false there is no list of what goes out.
func TestNothingBesideFalse(t *testing.T) {
	for _, x := range slices.Concat(wrong(), []api.Link{full(), joined(), asked("a")}) {
		if _, out, is := Carry(x, 77, []byte("a")); is || len(out) != 0 {
			t.Fatal(show(x), showOuts(out), is)
		}
		if _, out, is := Join(x, -1); is || len(out) != 0 {
			t.Fatal(show(x), showOuts(out), is)
		}
	}
}
