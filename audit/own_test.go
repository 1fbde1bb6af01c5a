package audit

import (
	"math/rand"
	"reflect"
	"slices"
	"testing"

	"wharfinger/api"
)

// roomy is a list of its own, with room behind its end in which something stands that nobody may write over.
func roomy[T any](l []T, behind T) []T {
	return append(append(make([]T, 0, len(l)+2), l...), behind, behind)[:len(l)]
}

// whole is a list up to its last room.
func whole[T any](l []T) []T { return l[:cap(l)] }

// roomyGate is one by chance, each list of which has room.
func roomyGate(r *rand.Rand) api.Gate {
	g := anyGate(r)
	g.S, g.H, g.X = roomy(g.S, api.Sess{ID: 99}), roomy(g.H, api.Hole{Port: 99}), roomy(g.X, api.Link{Sess: 99})
	for i := range g.S {
		g.S[i].C.B, g.S[i].S.B, g.S[i].G.Lines = roomy([]byte("ab"), 'z'), roomy([]byte("c"), 'z'), roomy([]string{"d"}, "z")
	}
	for i := range g.X {
		g.X[i].Wait = roomy([][]byte{roomy([]byte("ef"), 'z')}, []byte("z"))
	}
	g.All = roomy([]int{3, 4}, 99)
	return g
}

// laidOpen is a gateway with all its room told as part of it, in memory of its own.
func laidOpen(g api.Gate) api.Gate {
	g.S, g.H, g.X, g.All = slices.Clone(whole(g.S)), slices.Clone(whole(g.H)), slices.Clone(whole(g.X)), slices.Clone(whole(g.All))
	for i, s := range g.S {
		g.S[i].C.B, g.S[i].S.B, g.S[i].G.Lines = slices.Clone(whole(s.C.B)), slices.Clone(whole(s.S.B)), slices.Clone(whole(s.G.Lines))
	}
	for i, x := range g.X {
		g.X[i].Wait = slices.Clone(whole(x.Wait))
		for j, b := range g.X[i].Wait {
			g.X[i].Wait[j] = slices.Clone(whole(b))
		}
	}
	return g
}

// R3: a gateway that is asked of stays as it was, up to the last room of its lists; R5: what is asked twice is answered twice.
func TestGateStays(t *testing.T) {
	r := rand.New(rand.NewSource(4))
	for range 3000 {
		g := roomyGate(r)
		was := laidOpen(g)
		lens := [3]int{len(g.S), len(g.H), len(g.X)}
		conn, tenant := r.Intn(12)-2, r.Intn(6)-2
		id := Owner(g, conn)
		a, b, c := Count(g, tenant)
		if !reflect.DeepEqual(laidOpen(g), was) || lens != [3]int{len(g.S), len(g.H), len(g.X)} {
			t.Fatalf("Owner of %d, or Count of %d, changed %+v", conn, tenant, was)
		}
		checkCount(t, "once more", g, tenant, [3]int{a, b, c})
		if again := Owner(g, conn); again != id {
			t.Fatalf("Owner of %d = %d, and then %d", conn, id, again)
		}
	}
}

// R3: what went out stays as it was, and what is answered of it is the caller's own, up to its last room.
func TestSentIsTheCallersOwn(t *testing.T) {
	r := rand.New(rand.NewSource(5))
	for range 20000 {
		l := roomy(anyOuts(r), api.Out{Conn: 1, B: []byte("zz")})
		for i := range l {
			l[i].B = roomy(l[i].B, 'z')
		}
		open := func() []api.Out {
			all := slices.Clone(whole(l))
			for i := range all {
				all[i].B = slices.Clone(whole(all[i].B))
			}
			return all
		}
		was := open()
		b, again := Sent(l, 1), Sent(l, 1)
		text := string(b)
		for i := range whole(b) {
			whole(b)[i] = '#'
		}
		if !reflect.DeepEqual(open(), was) || string(again) != text {
			t.Fatalf("what is done with %q changes %+v, or %q", text, was, again)
		}
		for _, o := range whole(l) {
			for i := range whole(o.B) {
				whole(o.B)[i] = '!'
			}
		}
		if string(again) != text {
			t.Fatalf("what is done with the list changes %q, which is %q", text, again)
		}
	}
}
