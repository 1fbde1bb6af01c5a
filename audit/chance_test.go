package audit

import (
	"fmt"
	"math/rand"
	"slices"
	"testing"

	"wharfinger/api"
)

func pick[T any](r *rand.Rand, l ...T) T { return l[r.Intn(len(l))] }

// owners are all connections with whose each is, from the last one to the first, so that the first one stays.
func owners(g api.Gate) map[int]int {
	all := map[int]int{}
	put := func(conn, id int) {
		if conn > -1 {
			all[conn] = id
		}
	}
	for i := len(g.X) - 1; i >= 0; i-- {
		put(g.X[i].A, g.X[i].Sess)
		put(g.X[i].B, g.X[i].Sess)
	}
	for i := len(g.S) - 1; i >= 0; i-- {
		put(g.S[i].ID, g.S[i].ID)
		put(g.S[i].Up, g.S[i].ID)
	}
	return all
}

// wantOwner and wantCount are Owner, of all that are owned, and Count as the tests have them.
func wantOwner(all map[int]int, conn int) int {
	if id, is := all[conn]; is {
		return id
	}
	return -1
}

func wantCount(g api.Gate, tenant int) [3]int {
	var n [3]int
	for _, s := range g.S {
		if s.L.Tenant == tenant {
			n[0]++
		}
	}
	for _, h := range g.H {
		if h.Tenant == tenant {
			n[1]++
		}
	}
	for _, x := range g.X {
		if slices.ContainsFunc(g.S, func(s api.Sess) bool { return s.ID == x.Sess && s.L.Tenant == tenant }) {
			n[2]++
		}
	}
	return n
}

// anyGate is one by chance, of which few numbers make that they meet.
func anyGate(r *rand.Rand) api.Gate {
	var g api.Gate
	conn := func() int { return r.Intn(9+r.Intn(30)) - 2 }
	for range r.Intn(6) {
		s := sess(conn(), conn(), r.Intn(6)-1)
		s.L.Phase = r.Intn(9)
		g.S = append(g.S, s)
	}
	for range r.Intn(6) {
		g.H = append(g.H, api.Hole{Port: r.Intn(5), Sess: conn(), Tenant: r.Intn(6) - 1})
	}
	for range r.Intn(6) {
		x := link(conn(), conn(), conn())
		if len(g.S) > 0 && r.Intn(3) > 0 {
			x.Sess = pick(r, g.S...).ID
		}
		g.X = append(g.X, x)
	}
	return g
}

// P23.1: gateways by chance, most of which may not be, against the tests' own.
func TestAnyByChance(t *testing.T) {
	r := rand.New(rand.NewSource(1))
	counts := map[string]int{}
	for range 30000 {
		g := anyGate(r)
		all := owners(g)
		for conn := -3; conn < 40; conn++ {
			got, want := Owner(g, conn), wantOwner(all, conn)
			if got != want {
				t.Fatalf("Owner of %d in %+v = %d, want %d", conn, g, got, want)
			}
			counts[fmt.Sprint("owned ", got != -1)]++
		}
		for tenant := -2; tenant < 6; tenant++ {
			want := wantCount(g, tenant)
			checkCount(t, "by chance", g, tenant, want)
			for i, n := range want {
				counts[fmt.Sprint(i, " ", min(n, 3))]++
			}
		}
		if t.Failed() {
			t.Fatalf("of %+v", g)
		}
	}
	for _, s := range []string{"owned true", "owned false", "0 0", "0 1", "0 2", "0 3", "1 0", "1 1", "1 2", "1 3", "2 0", "2 1", "2 2", "2 3"} {
		if counts[s] < 300 {
			t.Errorf("%s: %d times", s, counts[s])
		}
	}
}

// anyOuts are some by chance.
func anyOuts(r *rand.Rand) []api.Out {
	var l []api.Out
	for range r.Intn(8) {
		b := make([]byte, r.Intn(5))
		r.Read(b)
		l = append(l, api.Out{Kind: max(0, r.Intn(7)-3), Conn: r.Intn(4) - 1, To: api.End{Port: r.Intn(2)}, B: b})
	}
	return l
}

// P23.2: what went out in two parts is what went out of each, one behind the other; and that of each part of one is that of all.
func TestPartsByChance(t *testing.T) {
	r := rand.New(rand.NewSource(2))
	more := 0
	for range 30000 {
		a, b := anyOuts(r), anyOuts(r)
		both := slices.Concat(a, b)
		for conn := -2; conn < 5; conn++ {
			want := string(Sent(a, conn)) + string(Sent(b, conn))
			checkSent(t, "both", both, conn, want)
			one, has := "", 0
			for _, o := range both {
				part := string(Sent([]api.Out{o}, conn))
				if o.Kind == aSend && o.Conn == conn && part != string(o.B) {
					t.Fatalf("of %+v alone %q", o, part)
				}
				one += part
				has += min(len(part), 1)
			}
			if one != want {
				t.Fatalf("to %d of %+v: %q, one by one %q", conn, both, want, one)
			}
			if has > 1 {
				more++
			}
		}
	}
	if more < 3000 {
		t.Errorf("%d of more than one", more)
	}
}

// P23.2: others' bytes, and what is no Send, are of no matter wherever they stand.
func TestOthersByChance(t *testing.T) {
	r := rand.New(rand.NewSource(3))
	for range 30000 {
		l := anyOuts(r)
		mine := slices.DeleteFunc(slices.Clone(l), func(o api.Out) bool { return o.Kind != aSend || o.Conn != 1 })
		want := ""
		for _, o := range mine {
			want += string(o.B)
		}
		checkSent(t, "mine", mine, 1, want)
		checkSent(t, "all", l, 1, want)
		kind := pick(r, -1, aShut, aDial, 3)
		at := r.Intn(len(l) + 1)
		checkSent(t, "with one more", slices.Insert(slices.Clone(l), at, api.Out{Kind: kind, Conn: 1, B: []byte("zz")}), 1, want)
		checkSent(t, "with another's", slices.Insert(slices.Clone(l), at, api.Out{Conn: 5, B: []byte("zz")}), 1, want)
	}
}
