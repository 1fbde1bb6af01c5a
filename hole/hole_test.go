package hole

import (
	"math"
	"math/rand"
	"slices"
	"testing"

	"wharfinger/api"
)

// least and most are both ends of int, and top is the greatest number of ticks.
const (
	least = math.MinInt
	most  = math.MaxInt
	top   = 1 << 40
)

// Hosts: me differs from you, and from other, in one byte alone.
var (
	me    = api.Host{10, 0, 0, 1}
	you   = api.Host{10, 0, 0, 2}
	other = api.Host{11, 0, 0, 1}
	none  = api.Host{}
	broad = api.Host{255, 255, 255, 255}
)

// some is a pinhole that may be, and all of whose parts are others.
func some() api.Hole {
	return api.Hole{Port: 2000, Sess: 7, Tenant: 2, Peer: me, To: api.End{Host: api.Host{192, 168, 3, 4}, Port: 5000}, Dead: 10}
}

// change makes another pinhole of one that may be, by one part alone.
type change struct {
	name string
	make func(h *api.Hole)
}

// changes lead from some to others that may be, each part, and each byte of a host, in turn.
func changes() []change {
	all := []change{
		{"Port", func(h *api.Hole) { h.Port++ }}, {"Port, by 4096", func(h *api.Hole) { h.Port += 4096 }},
		{"Sess", func(h *api.Hole) { h.Sess++ }}, {"Sess, by 2^32", func(h *api.Hole) { h.Sess += 1 << 32 }},
		{"Tenant", func(h *api.Hole) { h.Tenant++ }},
		{"To's Port", func(h *api.Hole) { h.To.Port++ }}, {"To's Port, by 4096", func(h *api.Hole) { h.To.Port += 4096 }},
		{"Dead", func(h *api.Hole) { h.Dead++ }}, {"Dead, by 2^32", func(h *api.Hole) { h.Dead += 1 << 32 }},
		{"the Hosts", func(h *api.Hole) { h.Peer, h.To.Host = h.To.Host, h.Peer }},
		{"the Ports", func(h *api.Hole) { h.Port, h.To.Port = h.To.Port, h.Port }},
		{"Sess and Tenant", func(h *api.Hole) { h.Sess, h.Tenant = h.Tenant, 3 }},
	}
	for i := range 4 {
		all = append(all,
			change{"Peer", func(h *api.Hole) { h.Peer[i]++ }}, change{"Peer, by its great bit", func(h *api.Hole) { h.Peer[i] ^= 128 }},
			change{"To's Host", func(h *api.Hole) { h.To.Host[i]++ }}, change{"To's Host, by its great bit", func(h *api.Hole) { h.To.Host[i] ^= 128 }})
	}
	return all
}

// numbered are n pinholes that may be, no two of which have any number in common but the tenant.
func numbered(n int) []api.Hole {
	var l []api.Hole
	for i := range n {
		l = append(l, api.Hole{Port: 2000 + i, Sess: 10 + i, Tenant: i % 4, Peer: api.Host{1, 2, byte(i >> 8), byte(i)}, To: api.End{Host: api.Host{9, 8, byte(i >> 8), byte(i)}, Port: 40000 + i}, Dead: 100 + i})
	}
	return l
}

// portEdges are both bounds with what lies beside them, ordinary ports, and numbers at both ends of int.
var portEdges = []int{least, least + 2000, -65536, -1024, -1, 0, 1, 80, 1022, 1023, 1024, 1025, 2000, 65534, 65535, 65536, 65537, 65536 + 2000, 1 << 32, 1<<32 + 2000, 1 << 62, most}

// So are these, of the other numbers.
var (
	sessEdges   = []int{least, least + 1, -1 << 32, -2, -1, 0, 1, 2, 1 << 32, top, top + 1, most - 1, most}
	tenantEdges = []int{least, least + 1, -4, -1, 0, 1, 2, 3, 4, 5, 8, 1 << 32, 1<<32 + 1, most}
	deadEdges   = []int{least, least + 1, -top - 1, -top, -1, 0, 1, 10, top - 1, top, top + 1, top + 2, 1 << 62, most}
	timeEdges   = []int{least, least + 1, -top, -2, -1, 0, 1, 9, 10, 11, top - 2, top - 1, top, top + 1, 1 << 62, most - 1, most}
)

func isWithin(n, low, high int) bool { return low <= n && n <= high }

// wantMay is the chapter's word, by numbers written out.
func wantMay(h api.Hole) bool {
	return isWithin(h.Port, 1024, 65535) && isWithin(h.To.Port, 1024, 65535) && isWithin(h.Sess, 0, most) && isWithin(h.Tenant, 0, 3) && isWithin(h.Dead, 0, 1<<40)
}

// alike tells of two pinholes part by part, and byte by byte.
func alike(a, b api.Hole) bool {
	for i := range 4 {
		if a.Peer[i] != b.Peer[i] || a.To.Host[i] != b.To.Host[i] {
			return false
		}
	}
	return a.Port == b.Port && a.Sess == b.Sess && a.Tenant == b.Tenant && a.To.Port == b.To.Port && a.Dead == b.Dead
}

func allAlike(a, b []api.Hole) bool {
	if len(a) != len(b) {
		return false
	}
	for i := range a {
		if !alike(a[i], b[i]) {
			return false
		}
	}
	return true
}

// wantGrant counts both of what makes it full, whichever comes first.
func wantGrant(l []api.Hole, h api.Hole, most int) ([]api.Hole, api.Errno) {
	if !wantMay(h) {
		return nil, 1
	}
	ports, tenants := 0, 0
	for i := len(l) - 1; i >= 0; i-- {
		if l[i].Port == h.Port {
			ports++
		}
		if l[i].Tenant == h.Tenant {
			tenants++
		}
	}
	if ports > 0 || tenants >= most {
		return nil, 4
	}
	want := make([]api.Hole, len(l)+1)
	copy(want, l)
	want[len(l)] = h
	return want, 0
}

// wantMatch goes from the last one back, so that the first one is what stays found.
func wantMatch(l []api.Hole, port int, peer api.Host, now int) ([]api.Hole, api.Hole, bool) {
	at := -1
	for i := len(l) - 1; i >= 0; i-- {
		if !wantOver(l[i], now) && l[i].Port == port && l[i].Peer == peer {
			at = i
		}
	}
	var others []api.Hole
	for i := range l {
		if i != at {
			others = append(others, l[i])
		}
	}
	if at < 0 {
		return others, api.Hole{}, false
	}
	return others, l[at], true
}

func wantOver(h api.Hole, now int) bool { return !(h.Dead > now) }

// wantLeft are those that are not left out, from the last one back.
func wantLeft(l []api.Hole, isOut func(h api.Hole) bool) []api.Hole {
	var left []api.Hole
	for i := len(l) - 1; i >= 0; i-- {
		if !isOut(l[i]) {
			left = append(left, l[i])
		}
	}
	slices.Reverse(left)
	return left
}

func wantSweep(l []api.Hole, now int) []api.Hole {
	return wantLeft(l, func(h api.Hole) bool { return wantOver(h, now) })
}

func wantRevoke(l []api.Hole, sess int) []api.Hole {
	return wantLeft(l, func(h api.Hole) bool { return h.Sess == sess })
}

// few are the first ones of a list, for what a test tells.
func few(l []api.Hole) []api.Hole { return l[:min(len(l), 6)] }

// checkStays holds a list to what it was.
func checkStays(t *testing.T, l, ahead []api.Hole) {
	t.Helper()
	if !allAlike(l, ahead) {
		t.Fatalf("what was handed in was %v, and is %v", few(ahead), few(l))
	}
}

func checkMay(t *testing.T, h api.Hole, want bool) {
	t.Helper()
	if got := May(h); got != want {
		t.Fatalf("May(%v) = %t, want %t", h, got, want)
	}
	if wantMay(h) != want {
		t.Fatalf("the tests' own May(%v) is not %t", h, want)
	}
}

func checkSame(t *testing.T, a, b []api.Hole, want bool) {
	t.Helper()
	if Same(a, b) != want || Same(b, a) != want {
		t.Fatalf("Same(%v, %v) = %t, and the other way around %t, want %t", few(a), few(b), Same(a, b), Same(b, a), want)
	}
	if allAlike(a, b) != want {
		t.Fatalf("the tests' own Same(%v, %v) is not %t", few(a), few(b), want)
	}
}

func checkGrant(t *testing.T, l []api.Hole, h api.Hole, most int) api.Errno {
	t.Helper()
	ahead := slices.Clone(l)
	got, no := Grant(l, h, most)
	want, wantNo := wantGrant(ahead, h, most)
	if no != wantNo || !allAlike(got, want) {
		t.Fatalf("Grant(%v, %v, %d) = %v, %d, want %v, %d", few(ahead), h, most, few(got), no, few(want), wantNo)
	}
	checkStays(t, l, ahead)
	return no
}

func checkMatch(t *testing.T, l []api.Hole, port int, peer api.Host, now int) bool {
	t.Helper()
	ahead := slices.Clone(l)
	got, h, is := Match(l, port, peer, now)
	want, wantH, wantIs := wantMatch(ahead, port, peer, now)
	if is != wantIs || !alike(h, wantH) || !allAlike(got, want) {
		t.Fatalf("Match(%v, %d, %v, %d) = %v, %v, %t, want %v, %v, %t", few(ahead), port, peer, now, few(got), h, is, few(want), wantH, wantIs)
	}
	checkStays(t, l, ahead)
	return is
}

func checkSweep(t *testing.T, l []api.Hole, now int) {
	t.Helper()
	ahead := slices.Clone(l)
	if got, want := Sweep(l, now), wantSweep(ahead, now); !allAlike(got, want) {
		t.Fatalf("Sweep(%v, %d) = %v, want %v", few(ahead), now, few(got), few(want))
	}
	checkStays(t, l, ahead)
}

func checkRevoke(t *testing.T, l []api.Hole, sess int) {
	t.Helper()
	ahead := slices.Clone(l)
	if got, want := Revoke(l, sess), wantRevoke(ahead, sess); !allAlike(got, want) {
		t.Fatalf("Revoke(%v, %d) = %v, want %v", few(ahead), sess, few(got), few(want))
	}
	checkStays(t, l, ahead)
}

func checkPorts(t *testing.T, l []api.Hole, want ...int) {
	t.Helper()
	ahead := slices.Clone(l)
	if got := Ports(l); !slices.Equal(got, want) {
		t.Fatalf("Ports(%v) = %v, want %v", few(ahead), got, want)
	}
	checkStays(t, l, ahead)
}

// The chapter's example, step by step.
func TestExample(t *testing.T) {
	h := api.Hole{Port: 2000, Peer: me, To: api.End{Host: you, Port: 3000}, Dead: 10}
	l, no := Grant(nil, h, 1)
	if no != api.OK || len(l) != 1 || !alike(l[0], h) {
		t.Fatalf("granted: %v, %d", l, no)
	}
	if left, got, is := Match(l, 2000, me, 10); is || !alike(got, api.Hole{}) || !allAlike(left, l) {
		t.Fatalf("at 10: %v, %v, %t", left, got, is)
	}
	left, got, is := Match(l, 2000, me, 9)
	if !is || !alike(got, h) || len(left) != 0 {
		t.Fatalf("at 9: %v, %v, %t", left, got, is)
	}
	if left, got, is := Match(left, 2000, me, 9); is || !alike(got, api.Hole{}) || len(left) != 0 {
		t.Fatalf("a second time: %v, %v, %t", left, got, is)
	}
}

// P16.1: each part alone, by hand. Those of hosts may be any.
func TestMay(t *testing.T) {
	checkMay(t, some(), true)
	checkMay(t, api.Hole{}, false)
	checkMay(t, api.Hole{Port: 1024, To: api.End{Port: 1024}}, true)
	checkMay(t, api.Hole{Port: 65535, Sess: most, Tenant: 3, Peer: api.Host{255, 255, 255, 255}, To: api.End{Host: api.Host{255, 255, 255, 255}, Port: 65535}, Dead: top}, true)
	for _, x := range []struct {
		set      func(h *api.Hole, n int)
		may, not []int
	}{
		{func(h *api.Hole, n int) { h.Port = n }, []int{1024, 1025, 2000, 32768, 65534, 65535}, []int{least, least + 2000, -2000, -1, 0, 1, 21, 1023, 65536, 65537, 65536 + 2000, 1<<32 + 2000, most}},
		{func(h *api.Hole, n int) { h.To.Port = n }, []int{1024, 1025, 2000, 32768, 65534, 65535}, []int{least, least + 2000, -2000, -1, 0, 1, 21, 1023, 65536, 65537, 65536 + 2000, 1<<32 + 2000, most}},
		{func(h *api.Hole, n int) { h.Sess = n }, []int{0, 1, 2, 8, 65536, 1 << 32, top, top + 1, 1 << 62, most - 1, most}, []int{-1, -2, -1 << 32, least + 1, least}},
		{func(h *api.Hole, n int) { h.Tenant = n }, []int{0, 1, 2, 3}, []int{-1, -2, -4, least, least + 1, 4, 5, 8, 256, 1 << 32, 1<<32 + 1, most}},
		{func(h *api.Hole, n int) { h.Dead = n }, []int{0, 1, 2, 65536, 1 << 32, top - 1, top}, []int{-1, -2, -top, least, least + 1, top + 1, top + 2, 1 << 41, 1 << 62, most - 1, most}},
	} {
		for _, n := range x.may {
			h := some()
			x.set(&h, n)
			checkMay(t, h, true)
		}
		for _, n := range x.not {
			h := some()
			x.set(&h, n)
			checkMay(t, h, false)
		}
	}
	for _, x := range changes() {
		h := some()
		x.make(&h)
		checkMay(t, h, true)
	}
}

// P16.1, P1: all edges of all numbers, together.
func TestMayAtAllEdges(t *testing.T) {
	for _, port := range portEdges {
		for _, to := range portEdges {
			for _, sess := range sessEdges {
				for _, tenant := range tenantEdges {
					for _, dead := range deadEdges {
						h := api.Hole{Port: port, Sess: sess, Tenant: tenant, To: api.End{Port: to}, Dead: dead}
						checkMay(t, h, wantMay(h))
					}
				}
			}
		}
	}
}

// P16.1: no byte of a host tells whether a pinhole may be.
func TestMayOfAnyHost(t *testing.T) {
	for i := range 4 {
		for b := range 256 {
			good, bad := some(), some()
			good.Peer[i], good.To.Host[3-i] = byte(b), byte(b)
			checkMay(t, good, true)
			bad.Peer[i], bad.To.Host[3-i], bad.Port = byte(b), byte(b), 1023
			checkMay(t, bad, false)
		}
	}
}

// P16.1: lists that are the same, none being as good as nil, and ones that are longer.
func TestSame(t *testing.T) {
	checkSame(t, nil, nil, true)
	checkSame(t, nil, []api.Hole{}, true)
	checkSame(t, []api.Hole{}, []api.Hole{}, true)
	checkSame(t, nil, []api.Hole{{}}, false)
	checkSame(t, []api.Hole{}, []api.Hole{some()}, false)
	checkSame(t, []api.Hole{{}}, []api.Hole{{}}, true)
	checkSame(t, []api.Hole{{}}, []api.Hole{{}, {}}, false)
	l := numbered(12)
	for n := range len(l) + 1 {
		checkSame(t, l[:n], slices.Clone(l[:n]), true)
		checkSame(t, l[:n], numbered(n), true)
		checkSame(t, slices.Repeat([]api.Hole{some()}, n), slices.Repeat([]api.Hole{some()}, n), true)
		checkSame(t, slices.Repeat([]api.Hole{some()}, n), slices.Repeat([]api.Hole{some()}, n+1), false)
		for m := range n {
			checkSame(t, l[:n], l[:m], false)
			checkSame(t, l[:n], l[m+1:n], false)
			checkSame(t, l[:n], append(slices.Clone(l[:n]), l[m]), false)
			checkSame(t, l[:n], slices.Concat(l[:m], l[m+1:n]), false)
		}
	}
}

// P16.1: lists that differ in one part of one pinhole alone, whichever that is.
func TestSameButOnePart(t *testing.T) {
	for _, x := range changes() {
		for n := 1; n <= 5; n++ {
			for at := range n {
				a := slices.Repeat([]api.Hole{some()}, n)
				b := slices.Clone(a)
				x.make(&b[at])
				if Same(a, b) || Same(b, a) {
					t.Fatalf("of %d, that at %d differs in %s: Same", n, at, x.name)
				}
				x.make(&a[at])
				checkSame(t, a, b, true)
			}
		}
	}
}

// P16.1: order tells, and so does how often one stands there.
func TestSameByOrder(t *testing.T) {
	l := numbered(3)
	a, b, c := l[0], l[1], l[2]
	checkSame(t, []api.Hole{a, b}, []api.Hole{b, a}, false)
	checkSame(t, []api.Hole{a, a, b}, []api.Hole{a, b, b}, false)
	checkSame(t, []api.Hole{a, b, a}, []api.Hole{a, a, b}, false)
	checkSame(t, []api.Hole{a, b, c}, []api.Hole{b, c, a}, false)
	checkSame(t, []api.Hole{a, b, a}, []api.Hole{a, b, a}, true)
	var all [][]api.Hole
	lists(3, []api.Hole{a, b, {}}, func(l []api.Hole) { all = append(all, slices.Clone(l)) })
	for i, x := range all {
		for j, y := range all {
			checkSame(t, x, y, i == j)
		}
	}
}

// lists calls back with all lists of up to n pinholes of those. A list holds only as long as the call lasts.
func lists(n int, of []api.Hole, f func(l []api.Hole)) {
	more(nil, n, of, f)
}

func more(l []api.Hole, n int, of []api.Hole, f func(l []api.Hole)) {
	f(l)
	if n == 0 {
		return
	}
	for _, h := range of {
		more(append(slices.Clip(l), h), n-1, of, f)
	}
}

// P16.1: all Ports are told, in order, also those that are told twice, and that may not be.
func TestPorts(t *testing.T) {
	checkPorts(t, nil)
	checkPorts(t, []api.Hole{})
	checkPorts(t, []api.Hole{{}}, 0)
	checkPorts(t, []api.Hole{some()}, 2000)
	checkPorts(t, []api.Hole{{Port: 2001}, {Port: 2000}}, 2001, 2000)
	checkPorts(t, []api.Hole{{Port: 2000}, {Port: 2000}, {Port: 1999}, {Port: 2000}}, 2000, 2000, 1999, 2000)
	checkPorts(t, []api.Hole{{Port: 1, Sess: 2, Tenant: 3, To: api.End{Port: 4}, Dead: 5}, {Sess: 6}}, 1, 0)
	var l []api.Hole
	for i, port := range portEdges {
		l = append(l, api.Hole{Port: port, Sess: i, Dead: -i})
	}
	for n := range len(l) + 1 {
		checkPorts(t, l[:n], portEdges[:n]...)
	}
	const many = 5000
	want := make([]int, many)
	for i := range want {
		want[i] = 2000 + i
	}
	checkPorts(t, numbered(many), want...)
}

// P16.2: by hand.
func TestGrant(t *testing.T) {
	at := func(port, tenant int) api.Hole {
		return api.Hole{Port: port, Tenant: tenant, Sess: 1, Peer: me, To: api.End{Host: you, Port: 3000}, Dead: 9}
	}
	a, b, c := at(2000, 0), at(2001, 0), at(2002, 1)
	for _, x := range []struct {
		l    []api.Hole
		h    api.Hole
		most int
		want api.Errno
	}{
		// None are there.
		{nil, a, 1, 0}, {[]api.Hole{}, a, 1, 0}, {nil, a, 8, 0}, {nil, a, most, 0},
		{nil, a, 0, 4}, {[]api.Hole{}, a, 0, 4}, {nil, a, -1, 4}, {nil, a, least, 4},
		// As many of its tenant as most, one fewer, one more.
		{[]api.Hole{a}, b, 2, 0}, {[]api.Hole{a}, b, 1, 4}, {[]api.Hole{a}, b, 0, 4}, {[]api.Hole{a}, b, 3, 0},
		{[]api.Hole{a, b}, at(2003, 0), 3, 0}, {[]api.Hole{a, b}, at(2003, 0), 2, 4}, {[]api.Hole{a, b}, at(2003, 0), 1, 4},
		{[]api.Hole{a, b}, at(2003, 0), most, 0}, {[]api.Hole{a, b}, at(2003, 0), least, 4}, {[]api.Hole{a, b}, at(2003, 0), -1, 4},
		// Others' are left out of account.
		{[]api.Hole{a, b}, c, 1, 0}, {[]api.Hole{a, b}, c, 2, 0}, {[]api.Hole{a, b}, c, 0, 4}, {[]api.Hole{a, b}, c, -1, 4},
		{[]api.Hole{c, a}, b, 2, 0}, {[]api.Hole{c, a}, b, 1, 4}, {[]api.Hole{a, c}, b, 2, 0}, {[]api.Hole{a, c}, b, 1, 4},
		{[]api.Hole{at(3000, 1), at(3001, 2), at(3002, 3), at(3003, 1)}, a, 1, 0},
		// Its port is had, of its tenant, or of another one, as the first one, or the last one.
		{[]api.Hole{a}, at(2000, 0), 8, 4}, {[]api.Hole{a}, at(2000, 1), 8, 4}, {[]api.Hole{a}, at(2000, 3), most, 4},
		{[]api.Hole{a, b, c}, at(2000, 2), 8, 4}, {[]api.Hole{a, b, c}, at(2001, 2), 8, 4}, {[]api.Hole{a, b, c}, at(2002, 2), 8, 4}, {[]api.Hole{a, b, c}, at(2003, 2), 8, 0},
		{[]api.Hole{a}, at(2000, 0), 1, 4}, {[]api.Hole{a}, at(2001, 1), 8, 0}, {[]api.Hole{a}, at(1999, 1), 8, 0},
		// A port that others lead to is had by none.
		{[]api.Hole{a}, at(3000, 0), 8, 0}, {[]api.Hole{at(3000, 0)}, at(2000, 0), 8, 0},
		// It may not be, whatever else there is.
		{nil, at(1023, 0), 8, 1}, {nil, at(65536, 0), 8, 1}, {nil, at(2000, 4), 8, 1}, {nil, at(2000, -1), 8, 1}, {nil, api.Hole{}, 8, 1},
		{nil, at(1023, 0), 0, 1}, {nil, at(1023, 0), least, 1}, {[]api.Hole{at(1023, 0)}, at(1023, 0), 8, 1}, {[]api.Hole{a, b}, at(2000, 4), 1, 1}, {[]api.Hole{at(2001, 4)}, at(2000, 4), 1, 1},
		{nil, at(1024, 0), 8, 0}, {nil, at(65535, 3), 8, 0},
	} {
		if got := checkGrant(t, x.l, x.h, x.most); got != x.want {
			t.Errorf("Grant(%v, %v, %d) told %d, want %d", x.l, x.h, x.most, got, x.want)
		}
	}
}

// P16.2: just what the last one is, all of it, stands behind the others; and of either error nothing does (R4).
func TestGrantTellsAllOfIt(t *testing.T) {
	for _, x := range changes() {
		h := some()
		x.make(&h)
		for n := range 6 {
			l := []api.Hole{}
			for i := range n {
				l = append(l, api.Hole{Port: 3000 + i, Sess: i, Tenant: 3, Peer: you, Dead: -1})
			}
			got, no := Grant(l, h, n+1)
			if no != api.OK || len(got) != n+1 || !allAlike(got[:n], l) || !alike(got[n], h) {
				t.Fatalf("Grant(%v, %v) = %v, %d", l, h, got, no)
			}
			checkGrant(t, got, h, most)
			if l, no := Grant(got, h, most); len(l) != 0 || no != api.ErrFull {
				t.Fatalf("granted again: %v, %d", l, no)
			}
			h.Dead = -1
			if l, no := Grant(got, h, 0); len(l) != 0 || no != api.ErrArg {
				t.Fatalf("granted, though it may not be: %v, %d", l, no)
			}
			h.Dead = got[n].Dead
		}
	}
}

// P16.2, R2: what may not be is told ahead of all else, each part alone being wrong, or all edges.
func TestGrantOfOnesThatMayNotBe(t *testing.T) {
	full := []api.Hole{some(), some(), {Port: 1023}, {Port: 65536, Tenant: 4}, {Port: least, Tenant: -1}}
	for _, n := range []int{least, -1, 0, 1, 2, 8, most} {
		for _, port := range portEdges {
			h := some()
			h.Port = port
			checkGrant(t, nil, h, n)
			checkGrant(t, full, h, n)
			checkGrant(t, []api.Hole{h}, h, n)
			h.Port, h.To.Port = 3000, port
			checkGrant(t, nil, h, n)
			checkGrant(t, full, h, n)
		}
		for _, sess := range sessEdges {
			h := some()
			h.Sess = sess
			checkGrant(t, nil, h, n)
			checkGrant(t, full, h, n)
		}
		for _, tenant := range tenantEdges {
			h := some()
			h.Tenant = tenant
			checkGrant(t, nil, h, n)
			checkGrant(t, full, h, n)
			checkGrant(t, []api.Hole{{Port: 3000, Tenant: tenant}, {Port: 3001, Tenant: tenant}}, h, n)
		}
		for _, dead := range deadEdges {
			h := some()
			h.Dead = dead
			checkGrant(t, nil, h, n)
			checkGrant(t, full, h, n)
		}
	}
}

// P16.2: what is there is told as it is, whether it may be or not, and whether it is over: just its ports and its tenants tell.
func TestGrantAmongOnesThatMayNotBe(t *testing.T) {
	h := some()
	odd := []api.Hole{{}, {Port: -1, Sess: -1, Tenant: -1, Dead: -1}, {Port: most, Sess: least, Tenant: most, Dead: most, To: api.End{Port: least}}, {Port: 2000 + 1<<32, Tenant: 2 + 1<<32}}
	if no := checkGrant(t, odd, h, 1); no != api.OK {
		t.Fatalf("among odd ones: %d", no)
	}
	for at := range odd {
		l := slices.Clone(odd)
		l[at].Port = 2000
		if no := checkGrant(t, l, h, most); no != api.ErrFull {
			t.Fatalf("the port is had by %v: %d", l[at], no)
		}
		l = slices.Clone(odd)
		l[at].Tenant = 2
		if no := checkGrant(t, l, h, 1); no != api.ErrFull {
			t.Fatalf("as many are of the tenant, by %v: %d", l[at], no)
		}
		if no := checkGrant(t, l, h, 2); no != api.OK {
			t.Fatalf("one fewer is of the tenant, by %v: %d", l[at], no)
		}
	}
}

// P16.2: its tenant's ones are counted, however many others' are, and wherever they stand.
func TestGrantCountsItsTenants(t *testing.T) {
	r := rand.New(rand.NewSource(16))
	for mine := range 10 {
		for others := range 30 {
			l := numbered(mine + others)
			for i := range l {
				l[i].Tenant = 1
				if i >= mine {
					l[i].Tenant = 2 + i%2
				}
			}
			r.Shuffle(len(l), func(i, j int) { l[i], l[j] = l[j], l[i] })
			h := some()
			h.Port, h.Tenant = 1999, 1
			for _, x := range []struct {
				most int
				want api.Errno
			}{{mine - 1, 4}, {mine, 4}, {mine + 1, 0}, {mine + 2, 0}, {mine + others, map[bool]api.Errno{true: 4, false: 0}[others == 0]}, {least, 4}, {-1, 4}, {most, 0}} {
				if no := checkGrant(t, l, h, x.most); no != x.want {
					t.Fatalf("%d of the tenant's, %d others, at most %d: %d, want %d", mine, others, x.most, no, x.want)
				}
			}
		}
	}
}

// P16.2: all lists of up to four of a small set, with each one of it, and each most.
func TestGrantSmall(t *testing.T) {
	var of []api.Hole
	for _, port := range []int{2000, 2001, 2002} {
		for _, tenant := range []int{0, 1} {
			of = append(of, api.Hole{Port: port, Tenant: tenant, To: api.End{Port: 1024}})
		}
	}
	lists(4, of, func(l []api.Hole) {
		for _, h := range of {
			for n := -1; n <= 5; n++ {
				checkGrant(t, l, h, n)
			}
		}
	})
}

// P16.2: which one is matched, by hand, as its place (-1: none).
func TestMatch(t *testing.T) {
	at := func(port int, peer api.Host, dead, sess int) api.Hole {
		return api.Hole{Port: port, Sess: sess, Tenant: 1, Peer: peer, To: api.End{Host: other, Port: 3000 + sess}, Dead: dead}
	}
	a, b, c := at(2000, me, 10, 0), at(2001, you, 10, 1), at(2002, other, 20, 2)
	over, same := at(2000, me, 5, 3), at(2000, me, 20, 4)
	for _, x := range []struct {
		l    []api.Hole
		port int
		peer api.Host
		now  int
		want int
	}{
		// None are there.
		{nil, 2000, me, 0, -1}, {[]api.Hole{}, 2000, me, 0, -1}, {nil, 0, none, 0, -1}, {nil, 0, none, least, -1},
		// Each of three.
		{[]api.Hole{a}, 2000, me, 0, 0}, {[]api.Hole{a, b, c}, 2000, me, 0, 0}, {[]api.Hole{a, b, c}, 2001, you, 0, 1}, {[]api.Hole{a, b, c}, 2002, other, 0, 2},
		{[]api.Hole{c, a, b}, 2000, me, 0, 1}, {[]api.Hole{c, b, a}, 2000, me, 0, 2},
		// The port, or the peer, alone is that of one, or both are those of two.
		{[]api.Hole{a, b, c}, 2000, you, 0, -1}, {[]api.Hole{a, b, c}, 2001, me, 0, -1}, {[]api.Hole{a, b, c}, 2003, me, 0, -1}, {[]api.Hole{a, b, c}, 2000, none, 0, -1},
		{[]api.Hole{a, b, c}, 1999, me, 0, -1}, {[]api.Hole{a, b, c}, 0, none, 0, -1}, {[]api.Hole{a, b, c}, 2002, me, 0, -1}, {[]api.Hole{a, b, c}, 2002, you, 0, -1},
		// No peer stands for all of them.
		{[]api.Hole{at(2000, none, 10, 5)}, 2000, me, 0, -1}, {[]api.Hole{at(2000, none, 10, 5)}, 2000, none, 0, 0}, {[]api.Hole{at(2000, none, 10, 5), a}, 2000, me, 0, 1}, {[]api.Hole{at(2000, broad, 10, 5)}, 2000, me, 0, -1}, {[]api.Hole{at(2000, broad, 10, 5)}, 2000, broad, 0, 0}, {[]api.Hole{a}, 2000, broad, 0, -1},
		// What it leads to tells nothing.
		{[]api.Hole{a}, 3000, other, 0, -1}, {[]api.Hole{a}, 2000, other, 0, -1}, {[]api.Hole{a}, 3000, me, 0, -1},
		// Ahead of its time, at it, and behind it.
		{[]api.Hole{a}, 2000, me, 9, 0}, {[]api.Hole{a}, 2000, me, 10, -1}, {[]api.Hole{a}, 2000, me, 11, -1}, {[]api.Hole{a}, 2000, me, 1, 0}, {[]api.Hole{a}, 2000, me, -1, 0},
		{[]api.Hole{a}, 2000, me, least, 0}, {[]api.Hole{a}, 2000, me, most, -1}, {[]api.Hole{a}, 2000, me, most - 1, -1}, {[]api.Hole{a}, 2000, me, least + 1, 0}, {[]api.Hole{a}, 2000, me, top, -1},
		// The first one of several.
		{[]api.Hole{a, same}, 2000, me, 9, 0}, {[]api.Hole{same, a}, 2000, me, 9, 0}, {[]api.Hole{b, same, a}, 2000, me, 0, 1}, {[]api.Hole{a, a, a}, 2000, me, 0, 0}, {[]api.Hole{b, a, c, a}, 2000, me, 0, 1},
		// The first one is over, and a later one is not.
		{[]api.Hole{over, a}, 2000, me, 5, 1}, {[]api.Hole{over, a}, 2000, me, 4, 0}, {[]api.Hole{over, a, same}, 2000, me, 9, 1}, {[]api.Hole{over, a, same}, 2000, me, 10, 2}, {[]api.Hole{over, a, same}, 2000, me, 19, 2}, {[]api.Hole{over, a, same}, 2000, me, 20, -1},
		{[]api.Hole{over, b, same}, 2000, me, 5, 2}, {[]api.Hole{over, over, over}, 2000, me, 5, -1}, {[]api.Hole{over, over, a, over}, 2000, me, 5, 2},
		// So it is where the first one is of another peer, or port.
		{[]api.Hole{at(2000, you, 10, 5), a}, 2000, me, 0, 1}, {[]api.Hole{at(2001, me, 10, 5), a}, 2000, me, 0, 1},
		// Times at both bounds.
		{[]api.Hole{at(2000, me, 0, 0)}, 2000, me, 0, -1}, {[]api.Hole{at(2000, me, 0, 0)}, 2000, me, -1, 0}, {[]api.Hole{at(2000, me, 0, 0)}, 2000, me, least, 0},
		{[]api.Hole{at(2000, me, top, 0)}, 2000, me, top - 1, 0}, {[]api.Hole{at(2000, me, top, 0)}, 2000, me, top, -1}, {[]api.Hole{at(2000, me, top, 0)}, 2000, me, most, -1},
		{[]api.Hole{at(2000, me, most, 0)}, 2000, me, most - 1, 0}, {[]api.Hole{at(2000, me, most, 0)}, 2000, me, most, -1}, {[]api.Hole{at(2000, me, most, 0)}, 2000, me, least, 0},
		{[]api.Hole{at(2000, me, least, 0)}, 2000, me, least, -1}, {[]api.Hole{at(2000, me, least, 0)}, 2000, me, most, -1}, {[]api.Hole{at(2000, me, least+1, 0)}, 2000, me, least, 0},
		// Ones that may not be are matched as well.
		{[]api.Hole{{}}, 0, none, -1, 0}, {[]api.Hole{{}}, 0, none, 0, -1}, {[]api.Hole{at(least, me, 1, -1)}, least, me, 0, 0}, {[]api.Hole{at(most, me, 1, -1)}, most, me, 0, 0}, {[]api.Hole{at(most, me, 1, -1)}, least, me, 0, -1},
	} {
		checkMatch(t, x.l, x.port, x.peer, x.now)
		left, h, is := Match(x.l, x.port, x.peer, x.now)
		want, others := api.Hole{}, x.l
		if x.want >= 0 {
			want, others = x.l[x.want], slices.Concat(x.l[:x.want], x.l[x.want+1:])
		}
		if is != (x.want >= 0) || !alike(h, want) || !allAlike(left, others) {
			t.Errorf("Match(%v, %d, %v, %d) = %v, %v, %t, want that at %d", x.l, x.port, x.peer, x.now, left, h, is, x.want)
		}
	}
}

// P16.2: each byte of a peer tells, and each bit of a port; all of what was there is told.
func TestMatchByEachByte(t *testing.T) {
	for _, x := range changes() {
		h := some()
		x.make(&h)
		for i := range 4 {
			for bit := range 8 {
				peer := h.Peer
				peer[i] ^= 1 << bit
				if checkMatch(t, []api.Hole{h}, h.Port, peer, 0) {
					t.Fatalf("%v comes to %v", peer, h)
				}
			}
		}
		for bit := range 63 {
			if port := h.Port ^ 1<<bit; checkMatch(t, []api.Hole{h}, port, h.Peer, 0) {
				t.Fatalf("%d is asked of %v", port, h)
			}
		}
		if !checkMatch(t, []api.Hole{h}, h.Port, h.Peer, 0) {
			t.Fatalf("its peer comes not to %v", h)
		}
	}
}

// P16.2: whichever of many is matched, the others are told in order.
func TestMatchLeavesTheOthers(t *testing.T) {
	for n := 1; n <= 40; n++ {
		l := numbered(n)
		for at, h := range l {
			left, got, is := Match(l, h.Port, h.Peer, h.Dead-1)
			if !is || !alike(got, h) || !allAlike(left, slices.Concat(l[:at], l[at+1:])) {
				t.Fatalf("of %d that at %d: %v, %v, %t", n, at, few(left), got, is)
			}
			for _, now := range []int{h.Dead, h.Dead + 1, most} {
				if checkMatch(t, l, h.Port, h.Peer, now) {
					t.Fatalf("of %d that at %d is matched at %d", n, at, now)
				}
			}
			checkMatch(t, l, h.Port, l[(at+1)%n].Peer, 0)
		}
	}
}

// P16.2, P16.3: all lists of up to three of a small set, with each port, peer, time and session of it, and others.
func TestSmall(t *testing.T) {
	var of []api.Hole
	for _, port := range []int{2000, 2001} {
		for _, peer := range []api.Host{me, you} {
			for _, dead := range []int{5, 6} {
				of = append(of, api.Hole{Port: port, Sess: len(of) % 3, Peer: peer, To: api.End{Port: 3000 + len(of)}, Dead: dead})
			}
		}
	}
	lists(3, of, func(l []api.Hole) {
		for now := 4; now <= 7; now++ {
			for _, port := range []int{1999, 2000, 2001} {
				for _, peer := range []api.Host{me, you, other} {
					checkMatch(t, l, port, peer, now)
				}
			}
			checkSweep(t, l, now)
		}
		for sess := -1; sess <= 3; sess++ {
			checkRevoke(t, l, sess)
		}
	})
}

// P16.3: by hand, as places of those that are left.
func TestSweep(t *testing.T) {
	until := func(dead ...int) []api.Hole {
		l := numbered(len(dead))
		for i := range l {
			l[i].Dead = dead[i]
		}
		return l
	}
	for _, x := range []struct {
		l    []api.Hole
		now  int
		want []int
	}{
		{nil, 0, nil}, {[]api.Hole{}, 0, nil}, {nil, least, nil}, {nil, most, nil},
		{until(10), 9, []int{0}}, {until(10), 10, nil}, {until(10), 11, nil}, {until(10), least, []int{0}}, {until(10), most, nil},
		{until(10, 5, 20), 4, []int{0, 1, 2}}, {until(10, 5, 20), 5, []int{0, 2}}, {until(10, 5, 20), 9, []int{0, 2}}, {until(10, 5, 20), 10, []int{2}}, {until(10, 5, 20), 19, []int{2}}, {until(10, 5, 20), 20, nil},
		{until(5, 10, 5, 10, 5), 5, []int{1, 3}}, {until(10, 5, 10, 5, 10), 5, []int{0, 2, 4}}, {until(5, 5, 5), 5, nil}, {until(5, 5, 5), 4, []int{0, 1, 2}},
		{until(6, 5), 5, []int{0}}, {until(5, 6), 5, []int{1}}, {until(5, 5, 6, 6), 5, []int{2, 3}}, {until(6, 6, 5, 5), 5, []int{0, 1}},
		{until(0), 0, nil}, {until(0), -1, []int{0}}, {until(0, 1), 0, []int{1}}, {until(top, top-1), top - 1, []int{0}}, {until(top), top, nil}, {until(top + 1), top, []int{0}},
		{until(least, -1, 0, 1, most), 0, []int{3, 4}}, {until(least, -1, 0, 1, most), -1, []int{2, 3, 4}}, {until(least, -1, 0, 1, most), least, []int{1, 2, 3, 4}}, {until(least, -1, 0, 1, most), most, nil}, {until(least, -1, 0, 1, most), most - 1, []int{4}},
	} {
		checkLeft(t, Sweep(x.l, x.now), x.l, x.want)
		checkSweep(t, x.l, x.now)
	}
}

// P16.3: by hand, as places of those that are left.
func TestRevoke(t *testing.T) {
	of := func(sess ...int) []api.Hole {
		l := numbered(len(sess))
		for i := range l {
			l[i].Sess = sess[i]
		}
		return l
	}
	for _, x := range []struct {
		l    []api.Hole
		sess int
		want []int
	}{
		{nil, 0, nil}, {[]api.Hole{}, 0, nil}, {nil, -1, nil},
		{of(1), 1, nil}, {of(1), 0, []int{0}}, {of(1), 2, []int{0}}, {of(1), -1, []int{0}}, {of(0), 0, nil}, {of(0), 1, []int{0}},
		{of(1, 2, 3), 1, []int{1, 2}}, {of(1, 2, 3), 2, []int{0, 2}}, {of(1, 2, 3), 3, []int{0, 1}}, {of(1, 2, 3), 4, []int{0, 1, 2}}, {of(1, 2, 3), 0, []int{0, 1, 2}},
		{of(1, 1, 1), 1, nil}, {of(1, 2, 1, 2, 1), 1, []int{1, 3}}, {of(1, 2, 1, 2, 1), 2, []int{0, 2, 4}}, {of(2, 1, 1, 2), 1, []int{0, 3}}, {of(1, 1, 2, 2), 2, []int{0, 1}},
		{of(3, 2, 1), 2, []int{0, 2}}, {of(-1, 0, -1), -1, []int{1}}, {of(-1, 0, 1), 1, []int{0, 1}}, {of(1<<32+1, 1), 1, []int{0}},
		{of(least, most, 0), least, []int{1, 2}}, {of(least, most, 0), most, []int{0, 2}}, {of(least, most, 0), 0, []int{0, 1}}, {of(least, most, 0), -1, []int{0, 1, 2}},
	} {
		checkLeft(t, Revoke(x.l, x.sess), x.l, x.want)
		checkRevoke(t, x.l, x.sess)
	}
	// A place, a port or a tenant of that number tells nothing.
	checkRevoke(t, []api.Hole{{Port: 5, Tenant: 5, Dead: 5, To: api.End{Port: 5}}, {}, {}, {}, {}, {}}, 5)
}

// checkLeft holds what is left to those of a list that stand at places.
func checkLeft(t *testing.T, got, l []api.Hole, places []int) {
	t.Helper()
	var want []api.Hole
	for _, at := range places {
		want = append(want, l[at])
	}
	if !allAlike(got, want) {
		t.Errorf("of %v %v is left, want those at %v", l, got, places)
	}
}

// P16.2, P16.3: all edges as port, time, session and most, of lists that have all edges, too.
func TestEdges(t *testing.T) {
	var l []api.Hole
	for i := range 40 {
		l = append(l, api.Hole{
			Port: portEdges[i%len(portEdges)], Sess: sessEdges[i%len(sessEdges)], Tenant: tenantEdges[i%len(tenantEdges)],
			Peer: []api.Host{me, you}[i%2], To: api.End{Port: portEdges[(i+7)%len(portEdges)]}, Dead: deadEdges[i%len(deadEdges)],
		})
	}
	for _, now := range timeEdges {
		checkSweep(t, l, now)
		for _, port := range portEdges {
			checkMatch(t, l, port, me, now)
			checkMatch(t, l, port, you, now)
		}
	}
	for _, sess := range sessEdges {
		checkRevoke(t, l, sess)
	}
	for _, n := range timeEdges {
		h := some()
		checkGrant(t, l, h, n)
		h.Port = 2001
		checkGrant(t, l, h, n)
	}
	for _, h := range l {
		checkMay(t, h, wantMay(h))
	}
}

// anyHole may be mostly. Few numbers make that pinholes meet.
func anyHole(r *rand.Rand) api.Hole {
	h := api.Hole{Port: 2000 + r.Intn(6), Sess: r.Intn(4), Tenant: r.Intn(4), Peer: []api.Host{me, you, other}[r.Intn(3)], To: api.End{Host: you, Port: 3000 + r.Intn(3)}, Dead: r.Intn(9)}
	switch r.Intn(30) {
	case 0:
		h.Port = portEdges[r.Intn(len(portEdges))]
	case 1:
		h.To.Port = portEdges[r.Intn(len(portEdges))]
	case 2:
		h.Sess = sessEdges[r.Intn(len(sessEdges))]
	case 3:
		h.Tenant = tenantEdges[r.Intn(len(tenantEdges))]
	case 4:
		h.Dead = deadEdges[r.Intn(len(deadEdges))]
	}
	return h
}

func anyHoles(r *rand.Rand) []api.Hole {
	var l []api.Hole
	for range r.Intn(12) {
		l = append(l, anyHole(r))
	}
	return l
}

// P16.1, P16.2, P16.3: lists by chance.
func TestChance(t *testing.T) {
	r := rand.New(rand.NewSource(161))
	for range 20000 {
		l, h, now := anyHoles(r), anyHole(r), r.Intn(11)-1
		checkMay(t, h, wantMay(h))
		checkGrant(t, l, h, r.Intn(14)-2)
		checkMatch(t, l, h.Port, h.Peer, now)
		checkSweep(t, l, now)
		checkRevoke(t, l, h.Sess)
		checkSame(t, l, slices.Clone(l), true)
		if m := anyHoles(r); Same(l, m) != allAlike(l, m) {
			t.Fatalf("Same(%v, %v) = %t", l, m, Same(l, m))
		}
	}
}

// P16.2: what is swept is matched as if nothing was swept, and none that is over is.
func TestMatchAndSweep(t *testing.T) {
	r := rand.New(rand.NewSource(162))
	for range 20000 {
		l, h, now := anyHoles(r), anyHole(r), r.Intn(11)-1
		left, got, is := Match(l, h.Port, h.Peer, now)
		swept := Sweep(l, now)
		of, wasGot, was := Match(swept, h.Port, h.Peer, now)
		if is != was || !alike(got, wasGot) || !allAlike(Sweep(left, now), of) {
			t.Fatalf("of %v %v, %t is matched, and of %v %v, %t", l, got, is, swept, wasGot, was)
		}
		if is && (wantOver(got, now) || got.Port != h.Port || got.Peer != h.Peer) {
			t.Fatalf("%v is matched at %d by %v, at %d", got, h.Port, h.Peer, now)
		}
		if !allAlike(Sweep(swept, now), swept) || !allAlike(Sweep(Revoke(l, h.Sess), now), Revoke(swept, h.Sess)) {
			t.Fatalf("of %v: swept twice, or swept and revoked, is other", l)
		}
	}
}

// P16.4: what is granted is matched by its peer ahead of its time, wherever it stands, and then never again.
func TestGrantedIsMatchedOnce(t *testing.T) {
	r := rand.New(rand.NewSource(164))
	for range 3000 {
		l, h := apart(anyHoles(r)), anyHole(r)
		l, no := Grant(l, h, most)
		if no != api.OK {
			continue
		}
		for range r.Intn(3) {
			another := anyHole(r)
			if more, no := Grant(l, another, most); no == api.OK {
				l = more
			}
		}
		for _, now := range timeEdges {
			for _, peer := range []api.Host{h.Peer, none, {9, 9, 9, 9}} {
				left, got, is := Match(l, h.Port, peer, now)
				if want := peer == h.Peer && now < h.Dead; is != want || is && !alike(got, h) {
					t.Fatalf("of %v %v is matched by %v at %d: %v, %t", l, h, peer, now, got, is)
				}
				if is && matchedAtAll(left, h.Port, h.Peer) {
					t.Fatalf("of %v %v is matched again", left, h)
				}
			}
		}
	}
}

// apart are those of a list whose ports no earlier one has.
func apart(l []api.Hole) []api.Hole {
	var out []api.Hole
	for _, h := range l {
		if !slices.Contains(Ports(out), h.Port) {
			out = append(out, h)
		}
	}
	return out
}

// matchedAtAll tells whether a peer may come to a port, whenever that is.
func matchedAtAll(l []api.Hole, port int, peer api.Host) bool {
	for _, now := range timeEdges {
		if _, _, is := Match(l, port, peer, now); is {
			return true
		}
	}
	return false
}

// P16.4: from no pinholes on, by steps of chance. Each that is granted has a number of its own in To, so that it is known again; what there should be stands in a map by ports.
func TestStepsByChance(t *testing.T) {
	r := rand.New(rand.NewSource(165))
	for range 300 {
		var l []api.Hole
		there, matched, now := map[int]api.Hole{}, map[api.Host]bool{}, 0
		for step := range 80 {
			h := anyHole(r)
			h.To.Host, h.Dead = api.Host{1, 1, byte(step >> 8), byte(step)}, now+r.Intn(20)
			switch r.Intn(8) {
			case 0, 1, 2:
				l = stepGrant(t, l, there, h, r.Intn(6))
			case 3, 4, 5:
				l = stepMatch(t, l, there, matched, h.Port, h.Peer, now)
			case 6:
				l = Revoke(l, h.Sess)
				forget(there, func(x api.Hole) bool { return x.Sess == h.Sess })
			case 7:
				now += r.Intn(8)
				l = Sweep(l, now)
				forget(there, func(x api.Hole) bool { return x.Dead <= now })
			}
			checkThere(t, l, there)
		}
	}
}

func stepGrant(t *testing.T, l []api.Hole, there map[int]api.Hole, h api.Hole, most int) []api.Hole {
	t.Helper()
	of := 0
	for _, x := range there {
		if x.Tenant == h.Tenant {
			of++
		}
	}
	_, had := there[h.Port]
	more, no := Grant(l, h, most)
	if (no == api.OK) != (wantMay(h) && !had && of < most) {
		t.Fatalf("Grant(%v, %v, %d) told %d", l, h, most, no)
	}
	if no != api.OK {
		return l
	}
	there[h.Port] = h
	return more
}

func stepMatch(t *testing.T, l []api.Hole, there map[int]api.Hole, matched map[api.Host]bool, port int, peer api.Host, now int) []api.Hole {
	t.Helper()
	want, had := there[port]
	left, got, is := Match(l, port, peer, now)
	if is != (had && want.Peer == peer && now < want.Dead) || is && !alike(got, want) {
		t.Fatalf("Match(%v, %d, %v, %d) = %v, %t", l, port, peer, now, got, is)
	}
	if is && matched[got.To.Host] {
		t.Fatalf("%v is matched again", got)
	}
	if is {
		matched[got.To.Host] = true
		delete(there, port)
	}
	return left
}

func forget(there map[int]api.Hole, isOut func(h api.Hole) bool) {
	for port, h := range there {
		if isOut(h) {
			delete(there, port)
		}
	}
}

// checkThere holds a list to what should be there: all of it, no port twice, in the order in which it was granted.
func checkThere(t *testing.T, l []api.Hole, there map[int]api.Hole) {
	t.Helper()
	ports := Ports(l)
	slices.Sort(ports)
	if len(slices.Compact(ports)) != len(l) || len(l) != len(there) {
		t.Fatalf("%v are there, want %v", l, there)
	}
	for i, h := range l {
		if x, is := there[h.Port]; !is || !alike(x, h) {
			t.Fatalf("%v are there, want %v", l, there)
		}
		if i > 0 && slices.Compare(l[i-1].To.Host[:], h.To.Host[:]) >= 0 {
			t.Fatalf("%v are not in order", l)
		}
	}
}

// P16.4: where no two had a port in common none have, behind each call.
func TestNoPortTwice(t *testing.T) {
	r := rand.New(rand.NewSource(166))
	for range 5000 {
		l, h, now := apart(anyHoles(r)), anyHole(r), r.Intn(11)-1
		granted, _ := Grant(l, h, most)
		left, _, _ := Match(l, h.Port, h.Peer, now)
		for _, of := range [][]api.Hole{granted, left, Sweep(l, now), Revoke(l, h.Sess)} {
			if !allAlike(apart(of), of) {
				t.Fatalf("of %v and %v: %v have a port in common", l, h, of)
			}
		}
	}
}

// P1, P16.2: all 64512 ports are granted, swept and revoked, and more ones are none.
func TestAllPorts(t *testing.T) {
	const n = 64512
	var l []api.Hole
	for i := range n {
		l = append(l, api.Hole{Port: 1024 + i, Sess: i % 5, Tenant: i % 4, Peer: me, To: api.End{Port: 2000}, Dead: i % 3})
	}
	h := some()
	for _, port := range []int{1024, 1025, 30000, 65534, 65535} {
		h.Port = port
		if no := checkGrant(t, l, h, most); no != api.ErrFull {
			t.Fatalf("all ports are had: %d", no)
		}
		at := port - 1024
		without := slices.Concat(l[:at], l[at+1:])
		of := len(without) / 4
		if port%4 != h.Tenant {
			of++
		}
		if no := checkGrant(t, without, h, of+1); no != api.OK {
			t.Fatalf("%d is had by none: %d", port, no)
		}
		if no := checkGrant(t, without, h, of-1); no != api.ErrFull {
			t.Fatalf("%d are there, of %d: %d", of, of-1, no)
		}
		if !checkMatch(t, l, port, me, -1) || checkMatch(t, l, port, me, 3) || checkMatch(t, l, port, you, -1) {
			t.Fatalf("%d is matched otherwise", port)
		}
	}
	for now := -1; now <= 3; now++ {
		checkSweep(t, l, now)
		checkRevoke(t, l, now)
	}
	checkSame(t, l, slices.Clone(l), true)
	checkSame(t, l, l[:n-1], false)
	if !slices.IsSorted(Ports(l)) || len(Ports(l)) != n {
		t.Fatal("not all ports are told in order")
	}
}

// answers are the lists that all calls tell, of a list and what leads to each way through them.
func answers(l []api.Hole) [][]api.Hole {
	var all [][]api.Hole
	for _, h := range append(numbered(len(l)+1), some()) {
		for _, n := range []int{0, len(l), most} {
			granted, _ := Grant(l, h, n)
			all = append(all, granted)
		}
		for _, now := range []int{-1, h.Dead - 1, h.Dead, most} {
			left, _, _ := Match(l, h.Port, h.Peer, now)
			all = append(all, left, Sweep(l, now))
		}
		all = append(all, Revoke(l, h.Sess))
	}
	return all
}

// R3: neither what is handed in nor what stands behind it is changed.
func TestListStays(t *testing.T) {
	whole := numbered(9)
	ahead := slices.Clone(whole)
	for n := range len(whole) + 1 {
		answers(whole[:n])
		for _, l := range [][]api.Hole{whole[:n], whole[n:]} {
			Same(l, whole)
			Ports(l)
			Match(l, 2004, api.Host{1, 2, 0, 4}, 0)
		}
		checkStays(t, whole, ahead)
	}
}

// R3: what is answered stays as it was, whatever becomes of what was handed in.
func TestAnswersStay(t *testing.T) {
	for n := range 9 {
		whole := numbered(9)
		l := whole[:n]
		got, ports := answers(l), Ports(l)
		want := answers(slices.Clone(l))
		wantPorts := slices.Clone(ports)
		for i := range whole {
			whole[i] = api.Hole{Port: -i, Peer: you}
		}
		for i := range got {
			if !allAlike(got[i], want[i]) {
				t.Fatalf("of %d: %v became %v", n, want[i], got[i])
			}
		}
		if !slices.Equal(ports, wantPorts) {
			t.Fatalf("of %d: %v became %v", n, wantPorts, ports)
		}
	}
}

// R3: what is answered may be written over, and longer, to its last room, and neither what was handed in nor what else was answered is changed.
func TestAnswersAreOnesOwn(t *testing.T) {
	for n := range 9 {
		whole := numbered(9)
		l, ahead := whole[:n], slices.Clone(whole)
		got := answers(l)
		want := answers(slices.Clone(l))
		for i := range got {
			if !allAlike(got[i], want[i]) {
				t.Fatalf("of %d: %v, want %v", n, got[i], want[i])
			}
			mine := got[i][:cap(got[i])]
			for j := range mine {
				mine[j] = api.Hole{Port: -j - 1, Peer: you}
			}
			checkStays(t, whole, ahead)
		}
		ports := Ports(l)
		for j := range ports {
			ports[j] = -1
		}
		checkStays(t, whole, ahead)
		if more := Ports(l); slices.Contains(more, -1) {
			t.Fatalf("of %d: the ports became %v", n, more)
		}
	}
}

// R5: nothing hangs on what was asked before: none is matched, granted or over for having been so.
func TestAfterOthers(t *testing.T) {
	l := numbered(4)
	for range 5 {
		answers(numbered(3))
		for _, h := range numbered(6) {
			Grant(l, h, most)
			Match(l, h.Port, h.Peer, 0)
			Sweep(l, h.Dead)
			Revoke(l, h.Sess)
		}
		if no := checkGrant(t, l, some(), 1); no != api.ErrFull {
			t.Fatalf("Grant told %d", no)
		}
		if !checkMatch(t, l, 2001, l[1].Peer, l[1].Dead-1) {
			t.Fatal("none is matched")
		}
		checkSweep(t, l, 101)
		checkRevoke(t, l, 12)
		checkPorts(t, l, 2000, 2001, 2002, 2003)
		checkSame(t, l, numbered(4), true)
	}
}

// The bounds and errors of the chapter are those of api.
func TestBounds(t *testing.T) {
	if api.MinPort != 1024 || api.MaxPort != 65535 || api.MaxAll != 4 || api.Max != top || api.ErrArg != 1 || api.ErrFull != 4 || api.OK != 0 {
		t.Fatal("the bounds are others")
	}
}
