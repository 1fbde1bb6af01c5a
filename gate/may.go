package gate

import (
	"slices"

	"wharfinger/api"
	"wharfinger/conf"
	"wharfinger/data"
	"wharfinger/hole"
	"wharfinger/sat"
	"wharfinger/session"
)

// nobody is a connection that is none.
const nobody = -1

// May tells whether one may be. How many there are is asked ahead of each one, so that long lists are told soon.
func May(g api.Gate) bool {
	return conf.May(g.C) && sat.May(g.Now) && mayAll(g) &&
		mayHowMany(g) && maySessions(g) && mayHoles(g) && mayLinks(g) && areApart(conns(g))
}

func mayAll(g api.Gate) bool {
	return len(g.All) == len(g.C.Tenants) && count(g.All, sat.May) == len(g.All)
}

// mayHowMany tells whether there are no more sessions and pinholes of each kind than may be.
func mayHowMany(g api.Gate) bool {
	for i, t := range g.C.Tenants {
		if sessionsOf(g, i) > t.Sessions || holesOf(g, i) > t.Holes {
			return false
		}
	}
	return ahead(g) <= g.C.Pre
}

func maySessions(g api.Gate) bool {
	for _, s := range g.S {
		if !session.May(s) || s.L.Tenant >= len(g.C.Tenants) || s.L.Phase == api.Gone {
			return false
		}
	}
	return true
}

// mayHoles tells whether pinholes may be. At the last time of all those that are over stand till a tick, as no later one comes.
func mayHoles(g api.Gate) bool {
	for _, h := range g.H {
		s, is := within(g, h.Sess)
		if !hole.May(h) || !is || s.L.Tenant != h.Tenant || h.Dead <= g.Now && g.Now != api.Max {
			return false
		}
	}
	return areApart(hole.Ports(g.H))
}

func mayLinks(g api.Gate) bool {
	for _, s := range g.S {
		if linksOf(g, s.ID) > api.MaxLinks {
			return false
		}
	}
	for _, x := range g.X {
		if _, is := within(g, x.Sess); !data.May(x) || !is {
			return false
		}
	}
	return true
}

// ahead is how many sessions are ahead of being in.
func ahead(g api.Gate) int {
	return count(g.S, func(s api.Sess) bool { return !isIn(s) })
}

// sessionsOf is how many sessions are a tenant's.
func sessionsOf(g api.Gate, tenant int) int {
	return count(g.S, func(s api.Sess) bool { return isIn(s) && s.L.Tenant == tenant })
}

func holesOf(g api.Gate, tenant int) int {
	return count(g.H, func(h api.Hole) bool { return h.Tenant == tenant })
}

// linksOf is how many links are a session's.
func linksOf(g api.Gate, id int) int {
	return count(g.X, func(x api.Link) bool { return x.Sess == id })
}

// within is the session of an ID, if it is in.
func within(g api.Gate, id int) (api.Sess, bool) {
	for _, s := range g.S {
		if s.ID == id && isIn(s) {
			return s, true
		}
	}
	return api.Sess{}, false
}

func isIn(s api.Sess) bool { return s.L.Phase == api.In }

// isFree tells whether a number may become a connection.
func isFree(g api.Gate, conn int) bool {
	return conn > nobody && !slices.Contains(conns(g), conn)
}

// conns are all connections that are used, each as often as it is.
func conns(g api.Gate) []int {
	var all []int
	for _, s := range g.S {
		all = append(all, s.ID, s.Up)
	}
	for _, x := range g.X {
		all = append(all, x.A, x.B)
	}
	return slices.DeleteFunc(all, func(conn int) bool { return conn <= nobody })
}

// areApart tells whether no number stands twice among some.
func areApart(l []int) bool {
	sorted := slices.Clone(l)
	slices.Sort(sorted)
	return len(slices.Compact(sorted)) == len(l)
}

// count is how many of a list something holds of.
func count[T any](l []T, holds func(T) bool) int {
	n := 0
	for _, x := range l {
		if holds(x) {
			n++
		}
	}
	return n
}
