// Package sat is layer 1: see shared/doc/01-sat.md.
package sat

import "wharfinger/api"

// May tells whether a number is one that needs not be bounded.
func May(n int) bool { return taken(n) == n }

// Add is two numbers together. Each is bounded ahead of the sum, so that it can't wrap around.
func Add(a, b int) int { return taken(taken(a) + taken(b)) }

// Left is what is left of a limit.
func Left(limit, used int) int { return taken(taken(limit) - taken(used)) }

// Spend is how many of n a limit still allows, and what is used then.
func Spend(limit, used, n int) (int, int) {
	m := min(taken(n), Left(limit, used))
	return m, Add(used, m)
}

// taken is a number as it is taken: both cases share the one answer, and differ in the bound alone.
func taken(n int) int {
	bound := 0
	switch {
	case n > api.Max:
		bound = api.Max
		fallthrough
	case n < 0:
		return bound
	}
	return n
}
