package quota

import (
	"bytes"
	"math"
	"math/big"
	"math/rand"
	"testing"

	"wharfinger/api"
)

// numbers are ordinary ones, both bounds with what lies beside them, and numbers at both ends of int.
var numbers = []int{
	math.MinInt, math.MinInt + 1, -api.Max - 1, -api.Max, -2, -1,
	0, 1, 2, 3, 5, 7, 10, 11, api.Max / 2, api.Max/2 + 1, api.Max - 1,
	api.Max, api.Max + 1, 1 << 62, math.MaxInt - 1, math.MaxInt,
}

// few are those of them that the tests of two goes can take three more of.
var few = []int{math.MinInt, -1, 0, 1, 3, 5, 10, api.Max - 1, api.Max, api.Max + 1, math.MaxInt}

// taking is what Take answers.
type taking struct {
	m, used, all int
	cut          bool
}

func take(each, used, quota, all, n int) taking {
	m, u, a, cut := Take(each, used, quota, all, n)
	return taking{m, u, a, cut}
}

// bounded is a number as it is taken, by big numbers: what is wanted can't wrap around.
func bounded(n *big.Int) *big.Int {
	top := new(big.Int).Exp(big.NewInt(2), big.NewInt(40), nil)
	switch {
	case n.Sign() < 0:
		return new(big.Int)
	case n.Cmp(top) > 0:
		return top
	}
	return n
}

func bigOf(n int) *big.Int { return bounded(big.NewInt(int64(n))) }

func wantLeft(limit, used int) *big.Int {
	return bounded(new(big.Int).Sub(bigOf(limit), bigOf(used)))
}

func wantSum(a int, b *big.Int) int {
	return int(bounded(new(big.Int).Add(bigOf(a), b)).Int64())
}

// wantTaking is the chapter's words: which of the three is the least is found by holding each against both others.
func wantTaking(each, used, quota, all, n int) taking {
	asked, one, two := bigOf(n), wantLeft(each, used), wantLeft(quota, all)
	m := two
	if asked.Cmp(one) <= 0 && asked.Cmp(two) <= 0 {
		m = asked
	} else if one.Cmp(asked) <= 0 && one.Cmp(two) <= 0 {
		m = one
	}
	return taking{int(m.Int64()), wantSum(used, m), wantSum(all, m), m.Cmp(asked) < 0}
}

func checkTake(t *testing.T, each, used, quota, all, n int) {
	t.Helper()
	if got, want := take(each, used, quota, all, n), wantTaking(each, used, quota, all, n); got != want {
		t.Fatalf("Take(%d, %d, %d, %d, %d) = %v, want %v", each, used, quota, all, n, got, want)
	}
}

// P14.1, with the chapter's example first: by hand.
func TestTake(t *testing.T) {
	const top = 1 << 40
	const least, most = math.MinInt, math.MaxInt
	for _, x := range []struct {
		each, used, quota, all, n int
		want                      taking
	}{
		{10, 7, 100, 0, 5, taking{3, 10, 3, true}},
		// n is the least: it goes on whole.
		{10, 7, 100, 0, 2, taking{2, 9, 2, false}},
		{10, 0, 100, 0, 5, taking{5, 5, 5, false}},
		{100, 20, 50, 30, 4, taking{4, 24, 34, false}},
		{10, 7, 100, 0, 0, taking{0, 7, 0, false}},
		{10, 7, 100, 0, -1, taking{0, 7, 0, false}},
		{10, 7, 100, 30, least, taking{0, 7, 30, false}},
		// What is left of each is the least.
		{10, 7, 100, 96, 5, taking{3, 10, 99, true}},
		{10, 9, 100, 0, 2, taking{1, 10, 1, true}},
		{10, 7, 100, 30, most, taking{3, 10, 33, true}},
		// What is left of quota is the least.
		{10, 0, 100, 99, 5, taking{1, 1, 100, true}},
		{100, 20, 50, 47, 9, taking{3, 23, 50, true}},
		{10, 4, 20, 18, most, taking{2, 6, 20, true}},
		// Two of them, or all three, are alike.
		{10, 7, 100, 0, 3, taking{3, 10, 3, false}},
		{100, 0, 10, 7, 3, taking{3, 3, 10, false}},
		{10, 7, 13, 10, 5, taking{3, 10, 13, true}},
		{10, 7, 13, 10, 2, taking{2, 9, 12, false}},
		{10, 7, 13, 10, 3, taking{3, 10, 13, false}},
		{10, 8, 13, 10, 3, taking{2, 10, 12, true}},
		{10, 7, 12, 10, 3, taking{2, 9, 12, true}},
		// Limits that are used up, and used beyond: nothing goes on, and what is used stays.
		{10, 10, 100, 0, 1, taking{0, 10, 0, true}},
		{10, 10, 100, 0, 0, taking{0, 10, 0, false}},
		{10, 0, 100, 100, 1, taking{0, 0, 100, true}},
		{10, 0, 100, 100, 0, taking{0, 0, 100, false}},
		{10, 10, 100, 100, 1, taking{0, 10, 100, true}},
		{10, 11, 100, 5, 1, taking{0, 11, 5, true}},
		{10, 12, 100, 0, 5, taking{0, 12, 0, true}},
		{10, 5, 100, 101, 1, taking{0, 5, 101, true}},
		{10, 11, 100, 101, 1, taking{0, 11, 101, true}},
		{10, 11, 100, 101, -1, taking{0, 11, 101, false}},
		{10, most, 100, 5, 1, taking{0, top, 5, true}},
		{10, 5, 100, most, 1, taking{0, 5, top, true}},
		// Limits of nought, and below 0.
		{0, 0, 100, 0, 1, taking{0, 0, 0, true}},
		{10, 0, 0, 0, 1, taking{0, 0, 0, true}},
		{0, 0, 0, 0, 0, taking{0, 0, 0, false}},
		{-1, 0, 100, 0, 1, taking{0, 0, 0, true}},
		{10, 0, -1, 0, 1, taking{0, 0, 0, true}},
		{-1, -5, 100, 0, 1, taking{0, 0, 0, true}},
		{-1, -1, -1, -1, -1, taking{0, 0, 0, false}},
		{least, 3, 100, 4, 5, taking{0, 3, 4, true}},
		{100, 3, least, 4, 5, taking{0, 3, 4, true}},
		// Used less than nothing is nothing used.
		{10, -5, 100, 0, 20, taking{10, 10, 10, true}},
		{10, -5, 100, -7, 4, taking{4, 4, 4, false}},
		{100, 0, 10, least, 20, taking{10, 10, 10, true}},
		{10, least, 100, least, 10, taking{10, 10, 10, false}},
		// Limits of 2^40 and one more, and n of both.
		{top, 0, top, 0, 5, taking{5, 5, 5, false}},
		{top, 0, top, 0, top - 1, taking{top - 1, top - 1, top - 1, false}},
		{top, 0, top, 0, top, taking{top, top, top, false}},
		{top, 0, top, 0, top + 1, taking{top, top, top, false}},
		{top + 1, 0, top + 1, 0, top + 1, taking{top, top, top, false}},
		{top - 1, 0, top, 0, top + 1, taking{top - 1, top - 1, top - 1, true}},
		{top, 0, top - 1, 0, top, taking{top - 1, top - 1, top - 1, true}},
		{top, 1, top, 0, top, taking{top - 1, top, top - 1, true}},
		{top + 1, 1, top + 1, 0, top, taking{top - 1, top, top - 1, true}},
		{top, 0, top + 1, 1, top, taking{top - 1, top - 1, top, true}},
		{top, top, top, 0, 1, taking{0, top, 0, true}},
		{top + 1, top, top, 0, 1, taking{0, top, 0, true}},
		{top, 0, top + 1, top + 1, 1, taking{0, 0, top, true}},
		// What is used then meets 2^40, of the one limit and of the other.
		{top, top - 3, top, 0, 3, taking{3, top, 3, false}},
		{top, top - 3, top, 0, 4, taking{3, top, 3, true}},
		{top, 0, top, top - 3, 3, taking{3, 3, top, false}},
		{top, 0, top, top - 3, 4, taking{3, 3, top, true}},
		{top, top - 3, top, top - 3, 4, taking{3, top, top, true}},
		{top, top - 3, top, top - 2, 4, taking{2, top - 1, top, true}},
		// Both ends of int in each place.
		{most, 0, most, 0, most, taking{top, top, top, false}},
		{most, most, most, most, most, taking{0, top, top, true}},
		{least, least, least, least, least, taking{0, 0, 0, false}},
		{most, least, most, least, most, taking{top, top, top, false}},
		{least, most, least, most, least, taking{0, top, top, false}},
		{most, 3, 10, 4, 5, taking{5, 8, 9, false}},
		{10, 3, most, 4, 5, taking{5, 8, 9, false}},
	} {
		if got := take(x.each, x.used, x.quota, x.all, x.n); got != x.want {
			t.Errorf("Take(%d, %d, %d, %d, %d) = %v, want %v", x.each, x.used, x.quota, x.all, x.n, got, x.want)
		}
		checkTake(t, x.each, x.used, x.quota, x.all, x.n)
	}
}

// P14.1: small numbers, all of them, and so all ways in which the three may be alike.
func TestTakeSmall(t *testing.T) {
	for each := -1; each <= 5; each++ {
		for used := -1; used <= 6; used++ {
			for quota := -1; quota <= 5; quota++ {
				for all := -1; all <= 6; all++ {
					for n := -2; n <= 6; n++ {
						checkTake(t, each, used, quota, all, n)
					}
				}
			}
		}
	}
}

// P14.1, P1: each of the chosen numbers in three places, with the other two as they are ordinarily; few of them in all five.
func TestTakeChosen(t *testing.T) {
	for _, a := range numbers {
		for _, b := range numbers {
			for _, n := range numbers {
				checkTake(t, a, b, 100, 4, n)
				checkTake(t, 100, 4, a, b, n)
				checkTake(t, a, b, a, b, n)
				checkTake(t, a, 4, b, 7, n)
				checkTake(t, 100, a, 70, b, n)
			}
		}
	}
	for _, each := range few {
		for _, used := range few {
			for _, quota := range few {
				for _, all := range few {
					for _, n := range few {
						checkTake(t, each, used, quota, all, n)
					}
				}
			}
		}
	}
}

// anyNumber is small, about 2^40, or of any bits.
func anyNumber(r *rand.Rand) int {
	switch r.Intn(4) {
	case 0:
		return r.Intn(24) - 4
	case 1:
		return api.Max + r.Intn(24) - 12
	case 2:
		return r.Intn(api.Max)
	}
	return int(r.Uint64())
}

// P14.1: numbers by chance.
func TestTakeChance(t *testing.T) {
	r := rand.New(rand.NewSource(14))
	for range 200000 {
		checkTake(t, anyNumber(r), anyNumber(r), anyNumber(r), anyNumber(r), anyNumber(r))
	}
}

// P14.1: what goes on of the session's is what goes on of the tenant's: the two pairs may change places.
func TestTakeBothLimitsAlike(t *testing.T) {
	r := rand.New(rand.NewSource(141))
	for range 50000 {
		each, used, quota, all, n := anyNumber(r), anyNumber(r), anyNumber(r), anyNumber(r), anyNumber(r)
		x, y := take(each, used, quota, all, n), take(quota, all, each, used, n)
		if x != (taking{y.m, y.all, y.used, y.cut}) {
			t.Fatalf("Take(%d, %d, %d, %d, %d) = %v, and the other way around %v", each, used, quota, all, n, x, y)
		}
	}
}

// wantCut goes byte by byte. No number is added to, as m may be at either end of int.
func wantCut(b []byte, m int) []byte {
	var out []byte
	for i, c := range b {
		if i < m {
			out = append(out, c)
		}
	}
	return out
}

func checkCut(t *testing.T, b []byte, m int) {
	t.Helper()
	ahead := bytes.Clone(b)
	got, want := Cut(b, m), wantCut(ahead, m)
	if !bytes.Equal(got, want) {
		t.Fatalf("Cut of %d bytes, %d: %d bytes, want %d", len(ahead), m, len(got), len(want))
	}
	if !bytes.Equal(b, ahead) {
		t.Fatalf("Cut of %d bytes, %d, changed them", len(ahead), m)
	}
}

// P14.2: by hand.
func TestCut(t *testing.T) {
	for _, x := range []struct {
		b    []byte
		m    int
		want string
	}{
		{nil, 0, ""}, {nil, 1, ""}, {nil, -1, ""}, {nil, math.MaxInt, ""}, {nil, math.MinInt, ""},
		{[]byte{}, 0, ""}, {[]byte{}, 1, ""}, {[]byte{}, -1, ""}, {[]byte{}, math.MaxInt, ""}, {[]byte{}, math.MinInt, ""},
		{[]byte("a"), -1, ""}, {[]byte("a"), 0, ""}, {[]byte("a"), 1, "a"}, {[]byte("a"), 2, "a"},
		{[]byte("abc"), math.MinInt, ""}, {[]byte("abc"), -3, ""}, {[]byte("abc"), -1, ""}, {[]byte("abc"), 0, ""},
		{[]byte("abc"), 1, "a"}, {[]byte("abc"), 2, "ab"}, {[]byte("abc"), 3, "abc"}, {[]byte("abc"), 4, "abc"},
		{[]byte("abc"), api.Max, "abc"}, {[]byte("abc"), api.Max + 1, "abc"}, {[]byte("abc"), math.MaxInt, "abc"},
		{[]byte{0, 255, 13, 10, 0}, 4, "\x00\xff\r\n"}, {[]byte{0, 255, 13, 10, 0}, 5, "\x00\xff\r\n\x00"},
		{[]byte("\u00e9"), 1, "\xc3"},
		{[]byte("abcdef")[:3], 4, "abc"}, {[]byte("abcdef")[:3], 6, "abc"}, {[]byte("abcdef")[:0], 2, ""},
	} {
		if got := string(Cut(x.b, x.m)); got != x.want {
			t.Errorf("Cut(%q, %d) = %q, want %q", x.b, x.m, got, x.want)
		}
		checkCut(t, x.b, x.m)
	}
}

// P14.2: bytes of each length up to some, cut everywhere, and far beyond both ends.
func TestCutEverywhere(t *testing.T) {
	for n := range 40 {
		b := make([]byte, n, n+7)
		for i := range b {
			b[i] = byte(i*37 + 5)
		}
		for m := -3; m <= n+10; m++ {
			checkCut(t, b, m)
		}
		for _, m := range numbers {
			checkCut(t, b, m)
		}
	}
}

// P14.2, P1: many bytes.
func TestCutMany(t *testing.T) {
	b := bytes.Repeat([]byte("0123456789abcdef!"), 100000)
	for _, m := range []int{math.MinInt, 0, 1, len(b)/2 + 1, len(b) - 1, len(b), len(b) + 1, math.MaxInt} {
		checkCut(t, b, m)
	}
}

// R3: what Cut answers is the caller's own, and shares nothing with the bytes, not even with those behind it.
func TestCutIsOwn(t *testing.T) {
	for n := range 12 {
		for m := -1; m <= n+2; m++ {
			whole := []byte("abcdefghijklmnop")
			b := whole[:n]
			got := Cut(b, m)
			kept := bytes.Clone(got)
			for i := range whole {
				whole[i] = '.'
			}
			if !bytes.Equal(got, kept) {
				t.Fatalf("Cut of %d bytes, %d, changes as they change", n, m)
			}
			grown := append(got, "++++"...)
			full := got[:cap(got)]
			for i := range full {
				full[i] = '-'
			}
			for i := range grown {
				grown[i] = '-'
			}
			if string(whole) != "................" {
				t.Fatalf("Cut of %d bytes, %d: what was answered changes them: %s", n, m, whole)
			}
		}
	}
}

// R3: two answers share nothing with each other.
func TestCutTwice(t *testing.T) {
	b := []byte("abcdef")
	one, two := Cut(b, 4), Cut(b, 4)
	for i := range one {
		one[i] = '-'
	}
	if string(two) != "abcd" || string(b) != "abcdef" {
		t.Fatalf("one answer changed: the other one is %s, the bytes %s", two, b)
	}
}

// R5: nothing hangs on what was asked before.
func TestAnswersStay(t *testing.T) {
	first := take(10, 7, 100, 0, 5)
	cut := Cut([]byte("abc"), 2)
	for _, a := range numbers {
		take(a, 0, a, 0, a)
		Cut([]byte("xyz"), a)
	}
	if again := take(10, 7, 100, 0, 5); again != first {
		t.Fatalf("Take answered %v, and later %v", first, again)
	}
	if again := Cut([]byte("abc"), 2); !bytes.Equal(again, cut) || string(cut) != "ab" {
		t.Fatalf("Cut answered %s, and later %s", cut, again)
	}
}

// P14.3: neither limit is gone beyond that was not; of one that was, nothing more is used.
func checkWithin(t *testing.T, each, used, quota, all, n int) {
	t.Helper()
	got := take(each, used, quota, all, n)
	for _, x := range []struct{ limit, from, then int }{{each, used, got.used}, {quota, all, got.all}} {
		top, from := int(bigOf(x.limit).Int64()), int(bigOf(x.from).Int64())
		if from <= top && x.then > top {
			t.Fatalf("Take(%d, %d, %d, %d, %d) = %v: %d is beyond %d", each, used, quota, all, n, got, x.then, top)
		}
		if from > top && (got.m != 0 || x.then != from) {
			t.Fatalf("Take(%d, %d, %d, %d, %d) = %v, though %d was beyond %d", each, used, quota, all, n, got, from, top)
		}
		if x.then-from != got.m || got.m < 0 {
			t.Fatalf("Take(%d, %d, %d, %d, %d) = %v: from %d to %d", each, used, quota, all, n, got, from, x.then)
		}
	}
}

// P14.3: what is taken in two goes is as in one of both together, as these are taken. Whether it was cut is as well, but where both together are beyond 2^40, as the one go asks for less then.
func checkTwoGoes(t *testing.T, each, used, quota, all, n1, n2 int) {
	t.Helper()
	both := new(big.Int).Add(bigOf(n1), bigOf(n2))
	once := int(bounded(both).Int64())
	x := take(each, used, quota, all, n1)
	y := take(each, x.used, quota, x.all, n2)
	got := taking{x.m + y.m, y.used, y.all, x.cut || y.cut}
	want := take(each, used, quota, all, once)
	if bounded(both).Cmp(both) != 0 {
		want.cut = got.cut
	}
	if got != want {
		t.Fatalf("Take(%d, %d, %d, %d, ..) of %d, then %d: %v; at once %v", each, used, quota, all, n1, n2, got, want)
	}
}

// P14.3: small numbers, chosen ones, and ones by chance.
func TestTakeFollows(t *testing.T) {
	check := func(each, used, quota, all, n1, n2 int) {
		t.Helper()
		checkWithin(t, each, used, quota, all, n1)
		checkTwoGoes(t, each, used, quota, all, n1, n2)
	}
	for each := range 5 {
		for used := range 6 {
			for quota := range 5 {
				for all := range 6 {
					for n1 := -1; n1 <= 5; n1++ {
						for n2 := -1; n2 <= 5; n2++ {
							check(each, used, quota, all, n1, n2)
						}
					}
				}
			}
		}
	}
	for _, a := range few {
		for _, b := range few {
			for _, n1 := range few {
				for _, n2 := range few {
					check(a, b, 100, 4, n1, n2)
					check(100, 4, a, b, n1, n2)
					check(api.Max, a, api.Max, b, n1, n2)
					check(a, 0, b, 0, n1, n2)
				}
			}
		}
	}
	r := rand.New(rand.NewSource(143))
	for range 100000 {
		check(anyNumber(r), anyNumber(r), anyNumber(r), anyNumber(r), anyNumber(r), anyNumber(r))
	}
}

// P14.3: bytes that come in chunks go on as if they came at once: their beginning, up to what is left.
func TestChunksGoOnAsOne(t *testing.T) {
	r := rand.New(rand.NewSource(1433))
	for range 5000 {
		b := make([]byte, r.Intn(60))
		r.Read(b)
		each, used, quota, all := r.Intn(50), r.Intn(10), r.Intn(50), r.Intn(10)
		once := take(each, used, quota, all, len(b))
		var out []byte
		cut, u, a := false, used, all
		for rest := b; len(rest) > 0; {
			k := 1 + r.Intn(len(rest))
			x := take(each, u, quota, a, k)
			out = append(out, Cut(rest[:k], x.m)...)
			u, a, cut, rest = x.used, x.all, cut || x.cut, rest[k:]
		}
		if !bytes.Equal(out, Cut(b, once.m)) || u != once.used || a != once.all || cut != once.cut {
			t.Fatalf("of %d bytes at %d of %d and %d of %d: %d go on, at once %v", len(b), used, each, all, quota, len(out), once)
		}
	}
}

// P14.1: the least is told of any number of any kind that has an order.
func TestLeast(t *testing.T) {
	if least(3) != 3 || least(3, 2) != 2 || least(1, 2) != 1 || least(2, 3, 1) != 1 || least(2, 1, 3) != 1 || least(1, 1, 1) != 1 {
		t.Error("the least of numbers is another one")
	}
	if least("b", "c", "a") != "a" || least(1.5, 0.5) != 0.5 {
		t.Error("the least of texts, or of floats, is another one")
	}
}
