package sat

import (
	"math"
	"math/big"
	"testing"

	"wharfinger/api"
)

// edges are ordinary numbers, both bounds with what lies beside them, and numbers far beyond, whose sums wrap around if nothing bounds them.
var edges = []int{
	math.MinInt, math.MinInt + 1, -api.Max - 1, -api.Max, -7, -1,
	0, 1, 2, 3, 5, 7, 10, 12, api.Max / 2, api.Max/2 + 1, api.Max - 1,
	api.Max, api.Max + 1, 2 * api.Max, 1 << 62, math.MaxInt - 1, math.MaxInt,
}

// wantTaken works in big numbers, so that the wanted value itself can't wrap around.
func wantTaken(n *big.Int) *big.Int {
	top := new(big.Int).Lsh(big.NewInt(1), 40)
	if n.Sign() < 0 {
		return new(big.Int)
	}
	if n.Cmp(top) > 0 {
		return top
	}
	return n
}

func bigTaken(n int) *big.Int { return wantTaken(big.NewInt(int64(n))) }

func wantAdd(a, b int) int {
	return int(wantTaken(new(big.Int).Add(bigTaken(a), bigTaken(b))).Int64())
}

func wantLeft(limit, used int) int {
	return int(wantTaken(new(big.Int).Sub(bigTaken(limit), bigTaken(used))).Int64())
}

// P1.1
func TestMay(t *testing.T) {
	for _, x := range []struct {
		n    int
		want bool
	}{
		{math.MinInt, false}, {-api.Max, false}, {-1, false},
		{0, true}, {1, true}, {7, true}, {1<<40 - 1, true}, {1 << 40, true},
		{1<<40 + 1, false}, {1 << 41, false}, {1 << 62, false}, {math.MaxInt, false},
	} {
		if got := May(x.n); got != x.want {
			t.Errorf("May(%d) = %v, want %v", x.n, got, x.want)
		}
	}
}

// P1.1
func TestAdd(t *testing.T) {
	for _, x := range []struct{ a, b, want int }{
		{0, 0, 0}, {1, 2, 3}, {7, 0, 7},
		{-1, 0, 0}, {-1, -1, 0}, {-5, 2, 2}, {2, -5, 2},
		{1<<40 - 1, 0, 1<<40 - 1}, {1<<40 - 1, 1, 1 << 40}, {1<<40 - 1, 2, 1 << 40},
		{1 << 40, 0, 1 << 40}, {1 << 40, 1, 1 << 40}, {1 << 40, 1 << 40, 1 << 40},
		{1<<40 + 1, -1, 1 << 40}, {-1, 1<<40 + 1, 1 << 40},
		{1 << 62, 1 << 62, 1 << 40}, {math.MaxInt, math.MaxInt, 1 << 40},
		{math.MaxInt, math.MinInt, 1 << 40}, {math.MinInt, math.MinInt, 0}, {math.MinInt, 7, 7},
	} {
		if got := Add(x.a, x.b); got != x.want {
			t.Errorf("Add(%d, %d) = %d, want %d", x.a, x.b, got, x.want)
		}
	}
	for _, a := range edges {
		for _, b := range edges {
			if got, want := Add(a, b), wantAdd(a, b); got != want {
				t.Errorf("Add(%d, %d) = %d, want %d", a, b, got, want)
			}
		}
	}
}

// P1.2
func TestLeft(t *testing.T) {
	for _, x := range []struct{ limit, used, want int }{
		{0, 0, 0}, {10, 0, 10}, {10, 7, 3}, {10, 10, 0}, {10, 11, 0}, {7, 10, 0},
		{10, -1, 10}, {10, -3, 10}, {-1, 0, 0}, {-1, -5, 0}, {0, 1, 0},
		{1 << 40, 0, 1 << 40}, {1 << 40, 1, 1<<40 - 1}, {1 << 40, 1 << 40, 0},
		{1<<40 + 1, 0, 1 << 40}, {1<<40 + 1, 1, 1<<40 - 1}, {1 << 40, 1<<40 + 1, 0},
		{1 << 62, 1<<62 - 1, 0}, {math.MaxInt, math.MinInt, 1 << 40},
		{math.MinInt, math.MaxInt, 0}, {math.MinInt, math.MinInt, 0},
	} {
		if got := Left(x.limit, x.used); got != x.want {
			t.Errorf("Left(%d, %d) = %d, want %d", x.limit, x.used, got, x.want)
		}
	}
	for _, limit := range edges {
		for _, used := range edges {
			if got, want := Left(limit, used), wantLeft(limit, used); got != want {
				t.Errorf("Left(%d, %d) = %d, want %d", limit, used, got, want)
			}
		}
	}
}

// P1.2, with the chapter's example first.
func TestSpend(t *testing.T) {
	for _, x := range []struct{ limit, used, n, m, then int }{
		{10, 7, 5, 3, 10},
		{10, 7, 2, 2, 9}, {10, 7, 3, 3, 10}, {10, 7, 4, 3, 10}, {10, 7, 0, 0, 7},
		{10, 10, 1, 0, 10}, {10, 12, 5, 0, 12}, {0, 0, 1, 0, 0},
		{10, 0, -5, 0, 0}, {10, -5, 4, 4, 4}, {-1, 0, 5, 0, 0}, {-1, 3, 5, 0, 3},
		{1 << 40, 0, 1 << 40, 1 << 40, 1 << 40}, {1 << 40, 1, 1 << 40, 1<<40 - 1, 1 << 40},
		{1<<40 + 1, 0, 1<<40 + 1, 1 << 40, 1 << 40}, {10, 1<<40 + 1, 5, 0, 1 << 40},
		{1 << 60, 0, 1 << 60, 1 << 40, 1 << 40},
		{math.MaxInt, math.MinInt, math.MaxInt, 1 << 40, 1 << 40},
		{math.MinInt, math.MaxInt, math.MinInt, 0, 1 << 40},
	} {
		if m, then := Spend(x.limit, x.used, x.n); m != x.m || then != x.then {
			t.Errorf("Spend(%d, %d, %d) = %d, %d, want %d, %d", x.limit, x.used, x.n, m, then, x.m, x.then)
		}
	}
	for _, limit := range edges {
		for _, used := range edges {
			for _, n := range edges {
				want := min(int(bigTaken(n).Int64()), wantLeft(limit, used))
				m, then := Spend(limit, used, n)
				if m != want || then != wantAdd(used, want) {
					t.Errorf("Spend(%d, %d, %d) = %d, %d, want %d, %d", limit, used, n, m, then, want, wantAdd(used, want))
				}
			}
		}
	}
}

// P1.3: nothing goes beyond a limit that was not beyond it. What was beyond it already stays where it was.
func TestSpendStaysWithinLimit(t *testing.T) {
	for _, limit := range edges {
		for _, used := range edges {
			for _, n := range edges {
				top, from := int(bigTaken(limit).Int64()), int(bigTaken(used).Int64())
				m, then := Spend(limit, used, n)
				if from <= top && then > top {
					t.Errorf("Spend(%d, %d, %d): %d used, beyond %d", limit, used, n, then, top)
				}
				if from > top && (m != 0 || then != from) {
					t.Errorf("Spend(%d, %d, %d) = %d, %d, though the limit was passed", limit, used, n, m, then)
				}
				if then-from != m || !May(m) || !May(then) {
					t.Errorf("Spend(%d, %d, %d) = %d, %d, from %d on", limit, used, n, m, then, from)
				}
			}
		}
	}
}

// P1.3: what is spent in two goes is as in one.
func TestSpendInTwoGoes(t *testing.T) {
	for _, limit := range edges {
		for _, used := range edges {
			for _, a := range edges {
				for _, b := range edges {
					m1, then1 := Spend(limit, used, a)
					m2, then2 := Spend(limit, then1, b)
					m, then := Spend(limit, used, Add(a, b))
					if m1+m2 != m || then2 != then {
						t.Errorf("Spend(%d, %d, ..) of %d, then %d = %d+%d, %d; at once %d, %d", limit, used, a, b, m1, m2, then2, m, then)
					}
				}
			}
		}
	}
}
