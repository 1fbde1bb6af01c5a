package pool

import (
	"math"
	"math/big"
	"math/rand"
	"slices"
	"testing"

	"wharfinger/api"
)

// least and most are both ends of int, and all is how many ports may be at all.
const (
	least = math.MinInt
	most  = math.MaxInt
	all   = 64512
)

// span are the numbers from one to another one.
func span(from, to int) []int {
	var out []int
	for x := from; x <= to; x++ {
		out = append(out, x)
	}
	return out
}

// without are the numbers that are not another one.
func without(numbers []int, not int) []int {
	var out []int
	for _, x := range numbers {
		if x != not {
			out = append(out, x)
		}
	}
	return out
}

// freePorts tells of each number up to the last port whether it is not busy: a place for each stands in for the map.
func freePorts(busy []int) []bool {
	free := make([]bool, 65536)
	for i := range free {
		free[i] = true
	}
	for _, x := range busy {
		if x >= 0 && x < len(free) {
			free[x] = false
		}
	}
	return free
}

// mayBe is the chapter's word on ports.
func mayBe(low, high int) bool { return 1024 <= low && low <= high && high <= 65535 }

// wantPick goes from where the draw tells to high, and then from low on. The remainder is a big number's own, which is never below 0.
func wantPick(low, high, draw int, busy []int) (int, bool) {
	if !mayBe(low, high) {
		return 0, false
	}
	free := freePorts(busy)
	n := big.NewInt(int64(high - low + 1))
	start := low + int(new(big.Int).Mod(big.NewInt(int64(draw)), n).Int64())
	for port := start; port <= high; port++ {
		if free[port] {
			return port, true
		}
	}
	for port := low; port < start; port++ {
		if free[port] {
			return port, true
		}
	}
	return 0, false
}

func wantFree(low, high int, busy []int) int {
	if !mayBe(low, high) {
		return 0
	}
	n := 0
	for _, is := range freePorts(busy)[low : high+1] {
		if is {
			n++
		}
	}
	return n
}

// checkPick holds Pick to what is wanted, and what it picks to the ports and the busy ones (P15.3), and these to what they were (R3).
func checkPick(t *testing.T, low, high, draw int, busy []int) {
	t.Helper()
	ahead := slices.Clone(busy)
	got, is := Pick(low, high, draw, busy)
	want, wantIs := wantPick(low, high, draw, ahead)
	if got != want || is != wantIs {
		t.Fatalf("Pick(%d, %d, %d, %d) = %d, %v, want %d, %v", low, high, draw, few(ahead), got, is, want, wantIs)
	}
	if is && (got < low || got > high || slices.Contains(ahead, got)) {
		t.Fatalf("Pick(%d, %d, %d, %d) = %d, which is none of them, or busy", low, high, draw, few(ahead), got)
	}
	if !slices.Equal(busy, ahead) {
		t.Fatalf("Pick(%d, %d, %d, %d) changed what is busy", low, high, draw, few(ahead))
	}
}

func checkFree(t *testing.T, low, high int, busy []int) {
	t.Helper()
	ahead := slices.Clone(busy)
	if got, want := Free(low, high, busy), wantFree(low, high, ahead); got != want {
		t.Fatalf("Free(%d, %d, %d) = %d, want %d", low, high, few(ahead), got, want)
	}
	if !slices.Equal(busy, ahead) {
		t.Fatalf("Free(%d, %d, %d) changed what is busy", low, high, few(ahead))
	}
}

// check is both, by a draw, and P15.3: there is one just where some are free.
func check(t *testing.T, low, high, draw int, busy []int) {
	t.Helper()
	checkPick(t, low, high, draw, busy)
	checkFree(t, low, high, busy)
	if _, is := Pick(low, high, draw, busy); is != (Free(low, high, busy) > 0) {
		t.Fatalf("Pick(%d, %d, %d, %d) tells %v, and Free %d", low, high, draw, few(busy), is, Free(low, high, busy))
	}
}

// few is what a message tells of numbers, of which there may be very many.
func few(numbers []int) []int {
	if len(numbers) > 20 {
		return append(slices.Clone(numbers[:20]), -len(numbers))
	}
	return numbers
}

// P15.1, with the chapter's example first: by hand.
func TestPick(t *testing.T) {
	for _, x := range []struct {
		low, high, draw int
		busy            []int
		want            int
	}{
		{2000, 2002, 4, []int{2001}, 2002},
		// Nothing busy: low and the draw, together, low again behind high.
		{2000, 2002, 0, nil, 2000}, {2000, 2002, 1, nil, 2001}, {2000, 2002, 2, nil, 2002},
		{2000, 2002, 3, nil, 2000}, {2000, 2002, 4, nil, 2001}, {2000, 2002, 5, nil, 2002}, {2000, 2002, 6, nil, 2000},
		{2000, 2009, 9, nil, 2009}, {2000, 2009, 10, nil, 2000}, {2000, 2009, 11, nil, 2001}, {2000, 2009, 2004, nil, 2004},
		// Draws below 0.
		{2000, 2002, -1, nil, 2002}, {2000, 2002, -2, nil, 2001}, {2000, 2002, -3, nil, 2000}, {2000, 2002, -4, nil, 2002},
		{2000, 2009, -1, nil, 2009}, {2000, 2009, -9, nil, 2001}, {2000, 2009, -10, nil, 2000}, {2000, 2009, -11, nil, 2009},
		// Draws at both ends of int.
		{2000, 2002, least, nil, 2001}, {2000, 2002, most, nil, 2001},
		{2000, 2009, least, nil, 2002}, {2000, 2009, least + 1, nil, 2003}, {2000, 2009, most, nil, 2007}, {2000, 2009, most - 1, nil, 2006},
		{2000, 2001, least, nil, 2000}, {2000, 2001, most, nil, 2001},
		{1024, 65535, least, nil, 32768}, {1024, 65535, most, nil, 33791},
		// The port drawn is busy, and the next ones too.
		{2000, 2004, 1, []int{2001}, 2002}, {2000, 2004, 1, []int{2001, 2002}, 2003}, {2000, 2004, 1, []int{2001, 2002, 2003}, 2004},
		{2000, 2004, 1, []int{2001, 2002, 2003, 2004}, 2000}, {2000, 2004, 1, []int{2002, 2003, 2004, 2000}, 2001},
		{2000, 2004, 3, []int{2003, 2004}, 2000}, {2000, 2004, 3, []int{2003, 2004, 2000}, 2001}, {2000, 2004, 3, []int{2003, 2004, 2000, 2001}, 2002},
		{2000, 2004, 4, []int{2004}, 2000}, {2000, 2004, 4, []int{2004, 2000}, 2001}, {2000, 2004, -1, []int{2004}, 2000},
		{2000, 2004, 0, []int{2000}, 2001}, {2000, 2004, 5, []int{2000}, 2001}, {2000, 2004, -5, []int{2000}, 2001},
		{2000, 2004, least, []int{2002}, 2003}, {2000, 2004, most, []int{2002}, 2003},
		// Others are busy, and not the port drawn.
		{2000, 2004, 1, []int{2000, 2002}, 2001}, {2000, 2004, 1, []int{2000}, 2001}, {2000, 2004, 2, []int{2001, 2003}, 2002},
		// All of them are busy.
		{2000, 2002, 0, []int{2000, 2001, 2002}, 0}, {2000, 2002, 1, []int{2002, 2000, 2001}, 0}, {2000, 2002, -1, []int{2002, 2001, 2000}, 0},
		{2000, 2002, least, []int{2000, 2001, 2002}, 0}, {2000, 2002, most, []int{2000, 2001, 2002}, 0},
		{2000, 2002, 5, []int{2003, 2002, 2000, 2000, 2001, 1999}, 0},
		// One alone.
		{2000, 2000, 0, nil, 2000}, {2000, 2000, 1, nil, 2000}, {2000, 2000, -1, nil, 2000}, {2000, 2000, 77, nil, 2000},
		{2000, 2000, least, nil, 2000}, {2000, 2000, most, nil, 2000}, {2000, 2000, 0, []int{2000}, 0}, {2000, 2000, 3, []int{2000, 2000}, 0},
		{2000, 2000, 0, []int{1999, 2001}, 2000},
		// Both bounds.
		{1024, 1024, 0, nil, 1024}, {1024, 1024, 9, []int{1024}, 0}, {65535, 65535, 0, nil, 65535}, {65535, 65535, -9, []int{65535}, 0},
		{1024, 1025, 1, nil, 1025}, {1024, 1025, 1, []int{1025}, 1024}, {65534, 65535, 1, nil, 65535}, {65534, 65535, 1, []int{65535}, 65534},
		{1024, 65535, 0, nil, 1024}, {1024, 65535, 1, nil, 1025}, {1024, 65535, all - 1, nil, 65535}, {1024, 65535, all, nil, 1024},
		{1024, 65535, all + 1, nil, 1025}, {1024, 65535, -1, nil, 65535}, {1024, 65535, -all, nil, 1024}, {1024, 65535, -all - 1, nil, 65535},
		{1024, 65535, -1, []int{65535}, 1024}, {1024, 65535, 0, []int{1024, 1025}, 1026}, {1024, 65535, 1 << 16, nil, 2048},
		// Busy ones of every other form: none, twice, in any order, beyond both ends, at both ends of int.
		{2000, 2002, 0, []int{}, 2000}, {2000, 2002, 0, []int{2000, 2000}, 2001}, {2000, 2002, 1, []int{2002, 2001, 2002, 2001}, 2000},
		{2000, 2002, 0, []int{1999, 2003}, 2000}, {2000, 2002, 2, []int{1999, 2003}, 2002}, {2000, 2002, 2, []int{2003, 2002}, 2000},
		{2000, 2002, 0, []int{0, -1, -2000, 1023, 65536, 2000 + 65536}, 2000}, {2000, 2002, 1, []int{least, most, least + 2001}, 2001},
		{2000, 2002, 1, []int{least, 2001, most}, 2002}, {2000, 2002, 1, []int{1, 2}, 2001}, {2000, 2002, 1, []int{2001 + 1<<32}, 2001},
	} {
		if got, is := Pick(x.low, x.high, x.draw, x.busy); got != x.want || is != (x.want != 0) {
			t.Errorf("Pick(%d, %d, %d, %d) = %d, %v, want %d", x.low, x.high, x.draw, x.busy, got, is, x.want)
		}
		check(t, x.low, x.high, x.draw, x.busy)
	}
}

// P15.2: by hand.
func TestFree(t *testing.T) {
	for _, x := range []struct {
		low, high int
		busy      []int
		want      int
	}{
		// The chapter's example.
		{2000, 2002, []int{2001}, 2},
		// None, some and all are busy.
		{2000, 2002, nil, 3}, {2000, 2002, []int{}, 3}, {2000, 2002, []int{2000}, 2}, {2000, 2002, []int{2002}, 2},
		{2000, 2002, []int{2000, 2002}, 1}, {2000, 2002, []int{2002, 2001}, 1}, {2000, 2002, []int{2000, 2001, 2002}, 0}, {2000, 2002, []int{2001, 2002, 2000}, 0},
		{2000, 2009, []int{1999, 2000, 2000, 2009, 2010}, 8}, {2000, 2009, []int{2003, 2004, 2005}, 7},
		// One alone.
		{2000, 2000, nil, 1}, {2000, 2000, []int{2000}, 0}, {2000, 2000, []int{1999, 2001}, 1}, {2000, 2000, []int{2000, 2000, 2000}, 0},
		// Twice, beyond both ends, at both ends of int.
		{2000, 2002, []int{2001, 2001}, 2}, {2000, 2002, []int{2001, 2001, 2001, 2001}, 2}, {2000, 2002, []int{2001, 2002, 2001, 2002}, 1},
		{2000, 2002, []int{1999, 2003}, 3}, {2000, 2002, []int{1, 2, 3, 4, 5}, 3}, {2000, 2002, []int{0, -2000, 1023, 65536}, 3},
		{2000, 2002, []int{least, most}, 3}, {2000, 2002, []int{most, 2002, least}, 2}, {2000, 2002, []int{2001 + 1<<32, least + 2001}, 3},
		// Both bounds.
		{1024, 1024, nil, 1}, {1024, 1024, []int{1024}, 0}, {65535, 65535, nil, 1}, {65535, 65535, []int{65535}, 0},
		{1024, 65535, nil, all}, {1024, 65535, []int{1024, 65535}, all - 2}, {1024, 65535, []int{1023, 65536}, all},
		{1024, 65534, []int{65535}, all - 1}, {1025, 65535, []int{1024}, all - 1},
	} {
		if got := Free(x.low, x.high, x.busy); got != x.want {
			t.Errorf("Free(%d, %d, %d) = %d, want %d", x.low, x.high, x.busy, got, x.want)
		}
		checkFree(t, x.low, x.high, x.busy)
	}
}

// edges are both bounds with what lies beside them, ordinary ports, and numbers at both ends of int.
var edges = []int{
	least, least + 1, -65536, -65535, -1024, -2, -1, 0, 1, 2, 80, 1022, 1023,
	1024, 1025, 2000, 2001, 32768, 65534, 65535, 65536, 65537, 1 << 20, 1 << 32, 1<<32 + 2000, 1 << 62, most - 1, most,
}

// P15.1, P15.2: ports that may not be, by hand, whatever is drawn, and whatever is busy.
func TestPortsThatMayNotBe(t *testing.T) {
	for _, x := range []struct{ low, high int }{
		{1023, 1023}, {1023, 1024}, {1023, 2000}, {1023, 65535}, {0, 0}, {0, 2000}, {1, 65535}, {-1, 2000}, {-5, -3},
		{65535, 65536}, {65536, 65536}, {1024, 65536}, {2000, 65536}, {2000, 1 << 20}, {65536, 70000},
		{1023, 65536}, {0, 1 << 20}, {2000, 1999}, {1025, 1024}, {65535, 65534}, {65535, 1024}, {65536, 65535}, {1024, 1023}, {2000, 0}, {2000, -1},
		{least, 2000}, {2000, least}, {most, 2000}, {2000, most}, {least, least}, {most, most}, {least, most}, {most, least},
		{1024, most}, {least, 65535}, {65535, least}, {most, 65535}, {least, 1024}, {1024, least}, {least + 1, least}, {most, most - 1},
	} {
		for _, draw := range []int{0, 1, 2, 2000, -1, -2, least, most} {
			for _, busy := range [][]int{nil, {}, {2000}, {x.low}, {x.high}, {x.low, x.high}, {0}, {least, most}} {
				if port, is := Pick(x.low, x.high, draw, busy); port != 0 || is {
					t.Errorf("Pick(%d, %d, %d, %d) = %d, %v", x.low, x.high, draw, busy, port, is)
				}
				if n := Free(x.low, x.high, busy); n != 0 {
					t.Errorf("Free(%d, %d, %d) = %d", x.low, x.high, busy, n)
				}
			}
		}
	}
}

// P15.1, P15.2, P1: all edges as low, high and draw, with an edge, or all of them, busy.
func TestEdges(t *testing.T) {
	for _, low := range edges {
		for _, high := range edges {
			for _, draw := range edges {
				checkPick(t, low, high, draw, nil)
				checkPick(t, low, high, draw, edges)
			}
			checkFree(t, low, high, nil)
			checkFree(t, low, high, edges)
			checkFree(t, low, high, []int{low, high})
		}
	}
	for _, x := range edges {
		for _, draw := range edges {
			check(t, 2000, 2001, draw, []int{x})
			check(t, 1024, 1025, draw, []int{x, 1024})
			check(t, 65534, 65535, draw, []int{65535, x})
		}
	}
}

// P15.1, P15.2, P15.3: up to five ports in the middle and at both bounds, each set of them and of those beside them busy, and each draw twice around and more.
func TestSmall(t *testing.T) {
	for n := 1; n <= 5; n++ {
		for _, low := range []int{1024, 1025, 2000, 65535 - n, 65536 - n} {
			high := low + n - 1
			for set := range 1 << (n + 2) {
				var busy []int
				for i := range n + 2 {
					if set>>i&1 == 1 {
						busy = append(busy, low-1+i)
					}
				}
				checkFree(t, low, high, busy)
				for draw := -2*n - 1; draw <= 2*n+1; draw++ {
					checkPick(t, low, high, draw, busy)
				}
			}
		}
	}
}

// P15.1: all ports are drawn, from all of them, by each draw from below 0 up to as many and one more.
func TestAllPorts(t *testing.T) {
	want := 65535
	for draw := -all - 1; draw <= all+1; draw++ {
		if port, is := Pick(1024, 65535, draw, nil); port != want || !is {
			t.Fatalf("Pick(1024, 65535, %d) = %d, %v, want %d", draw, port, is, want)
		}
		want++
		if want > 65535 {
			want = 1024
		}
	}
}

// P15.1, P15.2, P15.3: all are busy but one, whichever that is, and whichever is drawn.
func TestAllButOne(t *testing.T) {
	for n := 1; n <= 9; n++ {
		for _, low := range []int{1024, 3000, 65536 - n} {
			high := low + n - 1
			for free := low; free <= high; free++ {
				busy := without(span(low, high), free)
				if got := Free(low, high, busy); got != 1 {
					t.Fatalf("Free(%d, %d, %d) = %d", low, high, busy, got)
				}
				for _, draw := range append(span(-n-1, n+1), least, most) {
					if port, is := Pick(low, high, draw, busy); port != free || !is {
						t.Fatalf("Pick(%d, %d, %d, %d) = %d, %v, want %d", low, high, draw, busy, port, is, free)
					}
				}
			}
		}
	}
}

// P15.1, P15.2, P15.3: all 64512 of them, of which one is free, or none.
func TestAllButOneOfAllPorts(t *testing.T) {
	whole := span(1024, 65535)
	draws := []int{0, 1, 30976, all - 1, all, all + 1, -1, -all, -all - 1, least, most}
	for _, free := range []int{1024, 1025, 32000, 65534, 65535} {
		busy := without(whole, free)
		if got := Free(1024, 65535, busy); got != 1 {
			t.Fatalf("but %d, all are busy: Free = %d", free, got)
		}
		for _, draw := range draws {
			if port, is := Pick(1024, 65535, draw, busy); port != free || !is {
				t.Fatalf("but %d, all are busy: Pick by %d = %d, %v", free, draw, port, is)
			}
		}
	}
	if got := Free(1024, 65535, whole); got != 0 {
		t.Fatalf("all are busy: Free = %d", got)
	}
	for _, draw := range draws {
		if port, is := Pick(1024, 65535, draw, whole); port != 0 || is {
			t.Fatalf("all are busy: Pick by %d = %d, %v", draw, port, is)
		}
	}
}

// P15.1: a run of busy ones is left out, from wherever it begins, over high and on from low too, however long it is.
func TestRunsOfBusyPorts(t *testing.T) {
	const low, n = 5000, 12
	for from := range n {
		for long := range n {
			var busy []int
			for i := range long {
				busy = append(busy, low+(from+i)%n)
			}
			want := low + (from+long)%n
			for i := range long + 1 {
				draw := from + i
				for _, d := range []int{draw, draw + n, draw - n, draw - 5*n, draw + 7*n} {
					if port, is := Pick(low, low+n-1, d, busy); port != want || !is {
						t.Fatalf("Pick(%d, %d, %d, %d) = %d, %v, want %d", low, low+n-1, d, busy, port, is, want)
					}
				}
			}
		}
	}
}

// anyPorts are some that may be mostly: few or many of them, anywhere, or any numbers.
func anyPorts(r *rand.Rand) (int, int) {
	switch r.Intn(8) {
	case 0:
		return anyNumber(r), anyNumber(r)
	case 1:
		low := 1020 + r.Intn(8)
		return low, low + r.Intn(10) - 1
	case 2:
		high := 65531 + r.Intn(8)
		return high - r.Intn(10) + 1, high
	case 3:
		low := 1024 + r.Intn(all)
		return low, low + r.Intn(65536-low)
	}
	low := 1024 + r.Intn(all-30)
	return low, low + r.Intn(30)
}

// anyNumber is small, about a bound, a port, or of any bits.
func anyNumber(r *rand.Rand) int {
	switch r.Intn(5) {
	case 0:
		return r.Intn(40) - 20
	case 1:
		return edges[r.Intn(len(edges))] + r.Intn(3) - 1
	case 2:
		return 1024 + r.Intn(all)
	case 3:
		return -r.Intn(1 << 20)
	}
	return int(r.Uint64())
}

// anyBusy are some that are among the ports, or beside them, often twice, and others.
func anyBusy(r *rand.Rand, low, high int) []int {
	var busy []int
	for range r.Intn(60) {
		x := anyNumber(r)
		if mayBe(low, high) && r.Intn(4) > 0 {
			x = low - 2 + r.Intn(min(high-low+5, 50))
		}
		busy = append(busy, x)
	}
	return busy
}

// P15.1, P15.2, P15.3: numbers by chance.
func TestChance(t *testing.T) {
	r := rand.New(rand.NewSource(15))
	for range 4000 {
		low, high := anyPorts(r)
		busy := anyBusy(r, low, high)
		check(t, low, high, anyNumber(r), busy)
		check(t, low, high, r.Intn(100)-50, busy)
	}
}

// P15.1, P15.2: which are busy tells, not in which order, nor how often.
func TestOrderOfBusyPorts(t *testing.T) {
	r := rand.New(rand.NewSource(151))
	for range 3000 {
		low, high := anyPorts(r)
		busy, draw := anyBusy(r, low, high), anyNumber(r)
		port, is := Pick(low, high, draw, busy)
		n := Free(low, high, busy)
		other := slices.Concat(busy, busy[:r.Intn(len(busy)+1)])
		r.Shuffle(len(other), func(i, j int) { other[i], other[j] = other[j], other[i] })
		sorted := slices.Sorted(slices.Values(busy))
		for _, same := range [][]int{other, sorted, slices.Compact(slices.Clone(sorted))} {
			if p, b := Pick(low, high, draw, same); p != port || b != is {
				t.Fatalf("Pick(%d, %d, %d, %d) = %d, %v, and of %d %d, %v", low, high, draw, busy, port, is, same, p, b)
			}
			if m := Free(low, high, same); m != n {
				t.Fatalf("Free(%d, %d, %d) = %d, and of %d %d", low, high, busy, n, same, m)
			}
		}
	}
}

// P15.1: the same port comes of draws that are as many apart.
func TestDrawsGoAround(t *testing.T) {
	r := rand.New(rand.NewSource(152))
	for range 3000 {
		low, high := anyPorts(r)
		if !mayBe(low, high) {
			continue
		}
		busy, n, draw := anyBusy(r, low, high), high-low+1, r.Intn(1<<40)-1<<39
		port, is := Pick(low, high, draw, busy)
		for _, times := range []int{-1000, -2, -1, 1, 2, 1000} {
			if p, b := Pick(low, high, draw+times*n, busy); p != port || b != is {
				t.Fatalf("Pick(%d, %d, %d, %d) = %d, %v, and by %d %d, %v", low, high, draw, busy, port, is, draw+times*n, p, b)
			}
		}
	}
}

// P15.3: ports that are picked till none is free are each of them once, one fewer free each time.
func TestPickTillNoneIsFree(t *testing.T) {
	r := rand.New(rand.NewSource(153))
	for range 300 {
		low := 1024 + r.Intn(all-40)
		high := low + r.Intn(40)
		busy := anyBusy(r, low, high)
		left := wantFree(low, high, busy)
		for ; left > 0; left-- {
			if got := Free(low, high, busy); got != left {
				t.Fatalf("Free(%d, %d, %d) = %d, want %d", low, high, busy, got, left)
			}
			port, is := Pick(low, high, anyNumber(r), busy)
			if !is || port < low || port > high || slices.Contains(busy, port) {
				t.Fatalf("Pick(%d, %d, .., %d) = %d, %v, though %d are free", low, high, busy, port, is, left)
			}
			busy = append(busy, port)
		}
		if port, is := Pick(low, high, anyNumber(r), busy); is || port != 0 || Free(low, high, busy) != 0 {
			t.Fatalf("Pick(%d, %d, .., %d) = %d, %v, though none is free", low, high, busy, port, is)
		}
	}
}

// R3: neither what is busy nor what stands behind it is changed, and what is answered stays, whatever becomes of them.
func TestBusyStays(t *testing.T) {
	whole := []int{2001, most, 2000, 2001, least, 2002, 2003, 7}
	ahead := slices.Clone(whole)
	for n := range len(whole) + 1 {
		busy := whole[:n]
		port, is := Pick(2000, 2004, n, busy)
		many := Free(2000, 2004, busy)
		if !slices.Equal(whole, ahead) {
			t.Fatalf("of the first %d of %d: they are %d then", n, ahead, whole)
		}
		for i := range whole {
			whole[i] = 2000 + i%5
		}
		copy(whole, ahead)
		if p, b := Pick(2000, 2004, n, busy); p != port || b != is || Free(2000, 2004, busy) != many {
			t.Fatalf("of the first %d of %d: %d, %v, and later %d, %v", n, whole, port, is, p, b)
		}
	}
}

// R5: nothing hangs on what was asked before: no port is busy for having been picked.
func TestAnswersStay(t *testing.T) {
	busy := []int{2001}
	for range 5 {
		for _, x := range edges {
			Pick(2000, 2002, x, []int{2000, x})
			Pick(x, 2002, x, nil)
			Free(2000, x, []int{2002})
		}
		if port, is := Pick(2000, 2002, 4, busy); port != 2002 || !is || Free(2000, 2002, busy) != 2 {
			t.Fatalf("Pick answered %d, %v, and Free %d", port, is, Free(2000, 2002, busy))
		}
	}
}

// The bounds of the chapter are those of api.
func TestBounds(t *testing.T) {
	if api.MinPort != 1024 || api.MaxPort != 65535 || all != api.MaxPort-api.MinPort+1 {
		t.Fatal("the ports that may be are others")
	}
}
