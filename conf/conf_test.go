package conf

import (
	"errors"
	"fmt"
	"math"
	"math/rand"
	"reflect"
	"regexp"
	"slices"
	"strings"
	"testing"

	"wharfinger/api"
)

// most is 2^40, written by hand.
const most = 1099511627776

// What the texts of a tenant have to be, told by patterns.
var (
	userOf = regexp.MustCompile(`\A[!-~]{1,60}\z`)
	nameOf = regexp.MustCompile(`\A[\-.0-9a-z]{1,60}\z`)
)

// someRules may be, each by itself.
var someRules = []api.Rule{
	{Allow: true, Path: "/"}, {Path: "/"}, {Verb: "STOR", Path: "/pub"}, {Verb: "RETR", Path: "/"}, {Verb: "PWD", Path: "/" + long("a", 199)},
	{Verb: "STOR", Path: "/a"}, {Verb: "STOR", Path: "/b"}, {Verb: "STOR", Path: "/c"}, {Verb: "STOR", Path: "/d"}, {Verb: "STOR", Path: "/e"},
}

// noUsers may not be a tenant's Name.
func noUsers() []string {
	return []string{"", " ", "a b", " a", "a ", "a\t", "a\n", "a\r\n", "\x00", "a\x1f", "\x7f", "\x80", "\xff", "\u00e9", "\u212a", long("a", 61), long("a", 62), long(" ", 60), long("a", 59) + " ", long("a", 255), long("a", 256), long("a", 257), long("a", 316)}
}

// noNames may not be a tenant's Host, though some of them may be its Name.
func noNames() []string {
	return append(noUsers(), "A", "ftp.A", "FTP.A", "a_b", "a@b", "@", "a/b", "ftp.a:21", "[::1]", "*", "~", ",", "`", "{", long("A", 60), long("a", 59)+"_")
}

// goodUsers may be a tenant's Name, whatever those of others are.
func goodUsers() []string {
	return []string{"a", "A", "a@b", "@", "!", "~", "a.b", "-", "0", "ftp.a", long("a", 60), long("~", 60), "user"}
}

// goodNames may be a tenant's Host, if no other one has it.
func goodNames() []string {
	return []string{"a", "z", "0", "9", ".", "-", "ftp", "ftp.", "ftp.aa", "10.0.0.1", long("a", 59), long("a", 60), long("-", 60)}
}

// noRules may not be a tenant's.
func noRules() [][]api.Rule {
	all := api.Rule{Allow: true, Path: "/"}
	return [][]api.Rule{
		{{}}, {{Allow: true}}, {{Path: "a"}}, {{Path: "/a/"}}, {{Path: "/a/.."}}, {{Path: "//"}}, {{Verb: "STOR"}}, {{Verb: "stor", Path: "/"}}, {{Verb: "SITE", Path: "/"}}, {{Verb: " ", Path: "/"}}, {{Verb: "STOR ", Path: "/"}}, {{Path: "/" + long("a", 200)}},
		{all, {}}, {{}, all}, {all, all, {Verb: "SITE", Path: "/"}}, append(slices.Repeat([]api.Rule{all}, 7), api.Rule{}), append(slices.Repeat([]api.Rule{all}, 7), api.Rule{Verb: "Retr", Path: "/"}),
		slices.Repeat([]api.Rule{all}, 9), slices.Repeat([]api.Rule{all}, 10), slices.Repeat([]api.Rule{all}, 256), slices.Repeat([]api.Rule{{}}, 9), append(slices.Repeat([]api.Rule{all}, 8), api.Rule{}),
	}
}

// goodRules may be a tenant's.
func goodRules() [][]api.Rule {
	all := api.Rule{Allow: true, Path: "/"}
	lists := [][]api.Rule{nil, {}, {{Verb: "STOR", Path: "/pub"}, all}, {all, all}, slices.Repeat([]api.Rule{all}, 7), slices.Repeat([]api.Rule{all}, 8), someRules[:8]}
	for _, r := range someRules {
		lists = append(lists, []api.Rule{r})
	}
	return lists
}

func long(s string, n int) string {
	return strings.Repeat(s, n)
}

// some is a conf of n tenants that may be, and of which no two are alike, with room between their ports.
func some(n int) api.Conf {
	c := api.Conf{Own: api.Host{10, 0, 0, 9}, Pre: 2, Life: 10, Idle: 50}
	for i := range n {
		name := string([]byte{byte('a' + i)})
		c.Tenants = append(c.Tenants, api.Tenant{
			Name: name, Host: "ftp." + name, At: api.End{Host: api.Host{10, byte(i), 0, 1}, Port: 21 + i},
			Low: 2000 + 1000*i, High: 2009 + 1000*i, Rules: []api.Rule{{Verb: "STOR", Path: "/" + name}, {Allow: true, Path: "/"}},
			Sessions: 1 + i, Holes: 4 - i, Quota: 100 * i, Each: 10 + i,
		})
	}
	return c
}

// copied is the same conf in new memory, with nil where that is.
func copied(c api.Conf) api.Conf {
	c.Tenants = slices.Clone(c.Tenants)
	for i := range c.Tenants {
		c.Tenants[i].Rules = slices.Clone(c.Tenants[i].Rules)
	}
	return c
}

// eachPlace calls back with each place among up to four tenants, and a conf of those that is the callee's own.
func eachPlace(f func(c api.Conf, at int)) {
	for n := 1; n <= 4; n++ {
		for at := range n {
			f(some(n), at)
		}
	}
}

// part is a number of a conf's, or of a tenant's, and from where to where it may be.
type part[T any] struct {
	low, high int
	of        func(*T) *int
}

func partsOfAll() []part[api.Conf] {
	return []part[api.Conf]{
		{1, 8, func(c *api.Conf) *int { return &c.Pre }},
		{1, most, func(c *api.Conf) *int { return &c.Life }},
		{1, most, func(c *api.Conf) *int { return &c.Idle }},
	}
}

func partsOfTenants() []part[api.Tenant] {
	return []part[api.Tenant]{
		{1, 8, func(x *api.Tenant) *int { return &x.Sessions }},
		{1, 8, func(x *api.Tenant) *int { return &x.Holes }},
		{0, most, func(x *api.Tenant) *int { return &x.Quota }},
		{0, most, func(x *api.Tenant) *int { return &x.Each }},
		{1, 65535, func(x *api.Tenant) *int { return &x.At.Port }},
	}
}

// numbers are those at the edges of all, and at both ends of int.
func numbers() []int {
	all := []int{math.MinInt, math.MinInt + 1, math.MaxInt - 1, math.MaxInt, -most, -65536, -9, -8, -2, 1 << 31, 1<<31 + 1, 1 << 32, 1<<32 + 1, -1 << 31, -1<<32 + 1, 2 * most, 2*most + 1, 1<<62 + 1}
	for _, n := range []int{0, 8, 1023, 1024, 2000, 2009, 65535, most} {
		all = append(all, n-1, n, n+1)
	}
	return all
}

// wantWhy goes through the tenants from the last one on, and through what is wrong with each likewise, so that the first one is what stays.
func wantWhy(c api.Conf) (int, int) {
	if outside(c.Pre, 1, 8) || outside(c.Life, 1, most) || outside(c.Idle, 1, most) || outside(len(c.Tenants), 1, 4) {
		return -1, 1
	}
	at, no := -1, 0
	for i := len(c.Tenants) - 1; i >= 0; i-- {
		if wrongPorts(c.Tenants, i) {
			at, no = i, 3
		}
		if wrongTenant(c.Tenants, i) {
			at, no = i, 2
		}
	}
	return at, no
}

func outside(n, low, high int) bool {
	return n < low || n > high
}

func wrongTenant(l []api.Tenant, i int) bool {
	for _, p := range partsOfTenants() {
		if outside(*p.of(&l[i]), p.low, p.high) {
			return true
		}
	}
	hosts := map[string]int{}
	for _, x := range l[:i+1] {
		hosts[x.Host]++
	}
	return !userOf.MatchString(l[i].Name) || !nameOf.MatchString(l[i].Host) || hosts[l[i].Host] > 1 || wrongRules(l[i].Rules)
}

// wrongRules goes by the rules that the tests have in lists that may be.
func wrongRules(l []api.Rule) bool {
	return len(l) > 8 || slices.ContainsFunc(l, func(r api.Rule) bool { return !slices.Contains(someRules, r) })
}

// wrongPorts goes port by port.
func wrongPorts(l []api.Tenant, i int) bool {
	x := l[i]
	if x.Low < 1024 || x.High > 65535 || x.High < x.Low {
		return true
	}
	for p := x.Low; p <= x.High; p++ {
		for _, y := range l[:i] {
			if p >= y.Low && p <= y.High {
				return true
			}
		}
	}
	return false
}

// errorsOf are the three, at their numbers.
func errorsOf() []error {
	return []error{1: api.ErrConf, 2: api.ErrTenant, 3: api.ErrPorts}
}

// checkWhy holds Why, May and Check against a place and a number, and the conf against what it was ahead of these (R3).
func checkWhy(t *testing.T, c api.Conf, at, no int) {
	t.Helper()
	before := copied(c)
	gotAt, got := Why(c)
	if gotAt != at || got != no {
		t.Fatalf("Why = %d, %d, want %d, %d, of %s", gotAt, got, at, no, short(c))
	}
	if is := May(c); is != (no == 0) {
		t.Fatalf("May = %t, want %t, of %s", is, no == 0, short(c))
	}
	checkError(t, Check(c), at, no)
	if !reflect.DeepEqual(c, before) {
		t.Fatalf("another conf was made, %s, of %s", short(c), short(before))
	}
	if at, no := wantWhy(c); at != gotAt || no != got {
		t.Fatalf("the tests' own Why is %d, %d, not %d, %d, of %s", at, no, gotAt, got, short(c))
	}
}

// short is a conf as a text that is not too long to be read.
func short(c api.Conf) string {
	s := fmt.Sprintf("%+v", c)
	return s[:min(len(s), 1200)]
}

// checkError holds what Check tells against a place and a number: it is just one of the three errors, and wraps it.
func checkError(t *testing.T, err error, at, no int) {
	t.Helper()
	for i := 1; i <= 3; i++ {
		if is := errors.Is(err, errorsOf()[i]); is != (i == no) {
			t.Fatalf("Check = %v, is that %v? %t, want that of %d, %d", err, errorsOf()[i], is, at, no)
		}
	}
	if no == 0 {
		if err != nil {
			t.Fatalf("Check = %v, want nil", err)
		}
		return
	}
	var wraps interface{ Unwrap() error }
	if !errors.As(err, &wraps) || wraps.Unwrap() != errorsOf()[no] {
		t.Fatalf("Check = %v, want what wraps %v", err, errorsOf()[no])
	}
	var f fault
	if !errors.As(err, &f) || f.at != at {
		t.Fatalf("Check = %v, want a fault at %d", err, at)
	}
}

// checkAsWanted holds all against what the tests have by other means. It tells the number.
func checkAsWanted(t *testing.T, c api.Conf) int {
	t.Helper()
	at, no := wantWhy(c)
	checkWhy(t, c, at, no)
	return no
}

// checkChange holds a conf that may be against a place and a number, after a change of one tenant.
func checkChange(t *testing.T, c api.Conf, at, no int, change func(x *api.Tenant)) {
	t.Helper()
	c = copied(c)
	change(&c.Tenants[at])
	if no == 0 {
		at = -1
	}
	checkWhy(t, c, at, no)
}

// whyIf is a number, or 0.
func whyIf(is bool, no int) int {
	if is {
		return no
	}
	return 0
}

// P13.1, P13.2: the chapter's example: a conf without tenants, whether the list is nil or empty.
func TestExample(t *testing.T) {
	for _, none := range [][]api.Tenant{nil, {}, make([]api.Tenant, 0, 4)} {
		c := some(2)
		c.Tenants = none
		checkWhy(t, c, -1, 1)
		if !errors.Is(Check(c), api.ErrConf) {
			t.Errorf("a conf without tenants: %v", Check(c))
		}
	}
	checkWhy(t, api.Conf{}, -1, 1)
}

// P13.1, P13.2: confs that may be, whatever else they have: their own host, those of servers, and names may be alike.
func TestGood(t *testing.T) {
	for n := 1; n <= 4; n++ {
		checkWhy(t, some(n), -1, 0)
		for _, h := range []api.Host{{}, {255, 255, 255, 255}, {10, 0, 0, 1}} {
			c := some(n)
			c.Own, c.Lf = h, !c.Lf
			for i := range c.Tenants {
				c.Tenants[i].Name = "me"
				c.Tenants[i].At = api.End{Host: h, Port: 21}
				c.Tenants[i].Rules = nil
			}
			checkWhy(t, c, -1, 0)
		}
	}
	least := api.Conf{Pre: 1, Life: 1, Idle: 1, Tenants: []api.Tenant{{Name: "a", Host: "b", At: api.End{Port: 1}, Low: 1024, High: 1024, Sessions: 1, Holes: 1}}}
	checkWhy(t, least, -1, 0)
	highest := api.Conf{Pre: 8, Life: most, Idle: most, Tenants: []api.Tenant{{Name: long("~", 60), Host: long("z", 60), At: api.End{Port: 65535}, Low: 1024, High: 65535, Sessions: 8, Holes: 8, Quota: most, Each: most, Rules: slices.Repeat([]api.Rule{{Verb: "RETR", Path: "/"}}, 8)}}}
	checkWhy(t, highest, -1, 0)
}

// P13.1: Pre, Life and Idle, written by hand.
func TestWhole(t *testing.T) {
	for _, x := range []struct {
		n         int
		pre, span bool
	}{
		{math.MinInt, false, false}, {-most, false, false}, {-1, false, false}, {0, false, false}, {1, true, true}, {2, true, true}, {7, true, true}, {8, true, true}, {9, false, true}, {10, false, true}, {65536, false, true}, {most - 1, false, true}, {most, false, true}, {most + 1, false, false}, {math.MaxInt, false, false},
	} {
		for n := 1; n <= 4; n++ {
			c := some(n)
			c.Pre = x.n
			checkWhy(t, c, -1, whyIf(!x.pre, 1))
			c = some(n)
			c.Life = x.n
			checkWhy(t, c, -1, whyIf(!x.span, 1))
			c = some(n)
			c.Idle = x.n
			checkWhy(t, c, -1, whyIf(!x.span, 1))
		}
	}
}

// P13.1: each number of the conf itself with each one of another.
func TestWholeOfNumbers(t *testing.T) {
	for _, p := range partsOfAll() {
		for _, q := range partsOfAll() {
			for _, n := range numbers() {
				for _, m := range numbers() {
					c := some(2)
					*p.of(&c) = n
					*q.of(&c) = m
					checkWhy(t, c, -1, whyIf(outside(*p.of(&c), p.low, p.high) || outside(m, q.low, q.high), 1))
				}
			}
		}
	}
}

// P13.1: there are from 1 to 4 tenants, whether these may be or not.
func TestHowMany(t *testing.T) {
	for n := 1; n <= 20; n++ {
		checkWhy(t, some(n), -1, whyIf(n > 4, 1))
		c := some(n)
		c.Tenants = make([]api.Tenant, n)
		if n > 4 {
			checkWhy(t, c, -1, 1)
		} else {
			checkWhy(t, c, 0, 2)
		}
	}
	for _, n := range []int{255, 256, 257, 260, 1<<16 + 1} {
		c := some(1)
		c.Tenants = slices.Repeat(c.Tenants, n)
		checkWhy(t, c, -1, 1)
	}
}

// P13.1: at each place: a Name that is no User, and ones that are.
func TestNames(t *testing.T) {
	checkTexts(t, goodUsers(), noUsers(), "A", func(x *api.Tenant, s string) { x.Name = s })
}

// P13.1: at each place: a Host that is no Name, and ones that are.
func TestHosts(t *testing.T) {
	checkTexts(t, goodNames(), noNames(), "a", func(x *api.Tenant, s string) { x.Host = s })
}

// checkTexts sets a tenant's text to ones that may be, to ones that may not, and to one byte, that it may have, so many times.
func checkTexts(t *testing.T, good, bad []string, b string, set func(x *api.Tenant, s string)) {
	t.Helper()
	eachPlace(func(c api.Conf, at int) {
		for _, s := range good {
			checkChange(t, c, at, 0, func(x *api.Tenant) { set(x, s) })
		}
		for _, s := range bad {
			checkChange(t, c, at, 2, func(x *api.Tenant) { set(x, s) })
		}
		for n := range 70 {
			checkChange(t, c, at, whyIf(n < 1 || n > 60, 2), func(x *api.Tenant) { set(x, long(b, n)) })
		}
	})
}

// P13.1: at each place: the Host of each one ahead, of the latter of which it is a fault, not of the former.
func TestHostsAhead(t *testing.T) {
	eachPlace(func(c api.Conf, at int) {
		for ahead := range at {
			checkChange(t, c, at, 2, func(x *api.Tenant) { x.Host = c.Tenants[ahead].Host })
			checkChange(t, c, at, 0, func(x *api.Tenant) { x.Name = c.Tenants[ahead].Name })
			checkChange(t, c, at, 0, func(x *api.Tenant) { x.At = c.Tenants[ahead].At })
			checkChange(t, c, at, 0, func(x *api.Tenant) { x.Host = c.Tenants[ahead].Name })
			checkChange(t, c, at, 0, func(x *api.Tenant) { x.Host = c.Tenants[ahead].Host + "a" })
			checkChange(t, c, at, 0, func(x *api.Tenant) { x.Host = c.Tenants[ahead].Host[:4] })
		}
		for behind := at + 1; behind < len(c.Tenants); behind++ {
			with := copied(c)
			with.Tenants[at].Host = c.Tenants[behind].Host
			checkWhy(t, with, behind, 2)
		}
	})
	for n := 2; n <= 4; n++ {
		c := some(n)
		for i := range n {
			c.Tenants[i].Host = "ftp.a"
		}
		checkWhy(t, c, 1, 2)
	}
}

// P13.1: all hosts of up to four tenants out of three, and one that is no Name.
func TestAllHosts(t *testing.T) {
	of := []string{"a", "b", "c", "B"}
	for n := 1; n <= 4; n++ {
		for k := range 1 << (2 * n) {
			c := some(n)
			for i := range n {
				c.Tenants[i].Host = of[k>>(2*i)&3]
			}
			checkAsWanted(t, c)
		}
	}
}

// P13.1: at each place: Sessions, Holes, Quota, Each and the port, written by hand.
func TestNumbersOfTenants(t *testing.T) {
	eachPlace(func(c api.Conf, at int) {
		for _, x := range []struct{ n, sessions, holes, quota, each, port int }{
			{math.MinInt, 2, 2, 2, 2, 2}, {-1, 2, 2, 2, 2, 2}, {0, 2, 2, 0, 0, 2}, {1, 0, 0, 0, 0, 0}, {8, 0, 0, 0, 0, 0}, {9, 2, 2, 0, 0, 0}, {65535, 2, 2, 0, 0, 0}, {65536, 2, 2, 0, 0, 2}, {most, 2, 2, 0, 0, 2}, {most + 1, 2, 2, 2, 2, 2}, {math.MaxInt, 2, 2, 2, 2, 2},
		} {
			checkChange(t, c, at, x.sessions, func(y *api.Tenant) { y.Sessions = x.n })
			checkChange(t, c, at, x.holes, func(y *api.Tenant) { y.Holes = x.n })
			checkChange(t, c, at, x.quota, func(y *api.Tenant) { y.Quota = x.n })
			checkChange(t, c, at, x.each, func(y *api.Tenant) { y.Each = x.n })
			checkChange(t, c, at, x.port, func(y *api.Tenant) { y.At.Port = x.n })
		}
		for _, p := range partsOfTenants() {
			for _, n := range numbers() {
				checkChange(t, c, at, whyIf(outside(n, p.low, p.high), 2), func(y *api.Tenant) { *p.of(y) = n })
			}
		}
	})
}

// P13.1: at each place: rules that may not be, and ones that may.
func TestRules(t *testing.T) {
	eachPlace(func(c api.Conf, at int) {
		for _, l := range noRules() {
			checkChange(t, c, at, 2, func(x *api.Tenant) { x.Rules = l })
		}
		for _, l := range goodRules() {
			checkChange(t, c, at, 0, func(x *api.Tenant) { x.Rules = l })
		}
	})
}

// P13.1: at each place: where ports may begin and end, written by hand.
func TestPorts(t *testing.T) {
	eachPlace(func(c api.Conf, at int) {
		for i := range c.Tenants {
			c.Tenants[i].Low, c.Tenants[i].High = 30000+i, 30000+i
		}
		for _, x := range []struct{ low, high, no int }{
			{1024, 1024, 0}, {1024, 1025, 0}, {1025, 1025, 0}, {1023, 1024, 3}, {1023, 1023, 3}, {1023, 2000, 3}, {0, 2000, 3}, {0, 0, 3}, {-1, 2000, 3}, {-1, -1, 3}, {1, 1, 3},
			{65535, 65535, 0}, {65534, 65535, 0}, {65534, 65534, 0}, {65535, 65536, 3}, {65536, 65536, 3}, {65536, 65537, 3}, {60000, 65536, 3}, {60000, 1 << 17, 3},
			{2000, 2000, 0}, {2000, 2001, 0}, {2000, 1999, 3}, {2001, 2000, 3}, {65535, 1024, 3}, {1025, 1024, 3}, {40000, 1024, 3}, {1024, 1023, 3}, {65536, 65535, 3}, {2000, 0, 3}, {2000, -1, 3}, {1024, 29999, 0}, {30004, 65535, 0},
			{math.MinInt, math.MaxInt, 3}, {math.MaxInt, math.MinInt, 3}, {math.MinInt, math.MinInt, 3}, {math.MaxInt, math.MaxInt, 3}, {math.MinInt, 2000, 3}, {2000, math.MinInt, 3}, {math.MaxInt, 2000, 3}, {2000, math.MaxInt, 3}, {1023, math.MaxInt, 3}, {math.MinInt, 65536, 3}, {1024 + 1<<32, 2000 + 1<<32, 3}, {1024 - 1<<32, 2000, 3}, {2000, 2000 + 1<<16, 3},
		} {
			checkChange(t, c, at, x.no, func(y *api.Tenant) { y.Low, y.High = x.low, x.high })
		}
		for _, low := range numbers() {
			for _, high := range numbers() {
				if outside(low, 1, 65535) || outside(high, 1, 65535) {
					checkChange(t, c, at, 3, func(y *api.Tenant) { y.Low, y.High = low, high })
				}
			}
		}
	})
}

// P13.1: at each place: ports that lie at, within or around those of each one ahead, and ones beside these. It is a fault of the latter one.
func TestPortsAhead(t *testing.T) {
	eachPlace(func(c api.Conf, at int) {
		for ahead := range at {
			low, high := c.Tenants[ahead].Low, c.Tenants[ahead].High
			for _, x := range []struct{ low, high, no int }{
				{low - 5, low, 3}, {high, high + 5, 3}, {low, low, 3}, {high, high, 3}, {low, high, 3}, {low + 1, high - 1, 3}, {low + 4, low + 4, 3}, {low, high - 1, 3}, {low + 1, high, 3}, {low - 1, high + 1, 3}, {low - 5, high, 3}, {low, high + 5, 3}, {low - 5, low + 3, 3}, {high - 3, high + 5, 3}, {1024, 65535, 3}, {1024, low, 3}, {high, 65535, 3},
				{low - 5, low - 1, 0}, {high + 1, high + 5, 0}, {low - 1, low - 1, 0}, {high + 1, high + 1, 0}, {high, low, 3}, {high + 1, low - 1, 3},
			} {
				checkChange(t, c, at, x.no, func(y *api.Tenant) { y.Low, y.High = x.low, x.high })
			}
		}
	})
	// Of one port alone: the same one, and both beside it.
	for n := 2; n <= 4; n++ {
		for at := 1; at < n; at++ {
			c := some(n)
			for i := range n {
				c.Tenants[i].Low, c.Tenants[i].High = 1024+2*i, 1024+2*i
			}
			checkWhy(t, c, -1, 0)
			c.Tenants[at].Low--
			checkWhy(t, c, -1, 0)
			c.Tenants[at].Low--
			checkWhy(t, c, at, 3)
		}
	}
}

// P13.1: ports side by side: all that may be, out of which no two have one in common; and with one more, at either end, they have.
func TestPortsSideBySide(t *testing.T) {
	cuts := []int{1024, 1025, 1026, 20000, 40000, 65535, 65536}
	for i := 0; i+4 < len(cuts); i++ {
		c := some(4)
		for at := range 4 {
			c.Tenants[at].Low, c.Tenants[at].High = cuts[i+at], cuts[i+at+1]-1
		}
		checkWhy(t, c, -1, 0)
		slices.Reverse(c.Tenants)
		checkWhy(t, c, -1, 0)
		for at := range 3 {
			wider := copied(c)
			wider.Tenants[at].Low--
			checkWhy(t, wider, at+1, 3)
			wider = copied(c)
			wider.Tenants[at+1].High++
			checkWhy(t, wider, at+1, 3)
		}
	}
}

// P13.1, P13.3: all ports of three tenants at the lower end, and at the upper end, of what may be.
func TestAllPorts(t *testing.T) {
	for _, first := range []int{1023, 65532} {
		const many = 5
		told := []int{0, 0, 0, 0}
		for k := range many * many * many * many * many * many {
			c := some(3)
			for i := range c.Tenants {
				c.Tenants[i].Low, k = first+k%many, k/many
				c.Tenants[i].High, k = first+k%many, k/many
			}
			no := checkAsWanted(t, c)
			told[no]++
			if no == 0 {
				checkApart(t, c)
			}
		}
		if told[0] == 0 || told[3] == 0 || told[1]+told[2] > 0 {
			t.Errorf("from %d on there were %v of each number", first, told)
		}
	}
}

// checkApart holds the tenants of a conf that may be against each other: each port, and each host, is but one's (P13.3).
func checkApart(t *testing.T, c api.Conf) {
	t.Helper()
	ports, hosts := map[int]int{}, map[string]int{}
	for i, x := range c.Tenants {
		if of, is := hosts[x.Host]; is {
			t.Fatalf("%d and %d have the host %q in common: %s", of, i, x.Host, short(c))
		}
		hosts[x.Host] = i
		for p := x.Low; p <= x.High; p++ {
			if of, is := ports[p]; is {
				t.Fatalf("%d and %d have the port %d in common: %s", of, i, p, short(c))
			}
			ports[p] = i
		}
	}
}

// change makes a fault of one kind, or several at once, at one tenant.
type change struct {
	no   int
	make func(x *api.Tenant)
}

func changes() []change {
	all := []change{
		{0, func(x *api.Tenant) {}}, {2, func(x *api.Tenant) { x.Name = "" }}, {2, func(x *api.Tenant) { x.Host = "A" }}, {2, func(x *api.Tenant) { x.Rules = []api.Rule{{}} }},
		{3, func(x *api.Tenant) { x.Low = 1023 }}, {3, func(x *api.Tenant) { x.High = 65536 }}, {3, func(x *api.Tenant) { x.Low, x.High = x.High, x.Low }},
		{2, func(x *api.Tenant) { x.Name, x.Low = "", 1023 }}, {2, func(x *api.Tenant) { x.Rules, x.High = []api.Rule{{}}, 0 }}, {2, func(x *api.Tenant) { *x = api.Tenant{} }},
	}
	for _, p := range partsOfTenants() {
		all = append(all, change{2, func(x *api.Tenant) { *p.of(x) = -1 }}, change{2, func(x *api.Tenant) { *p.of(x), x.Low, x.High = most+1, 1, 0 }})
	}
	return all
}

// P13.1: where several faults stand together, 1 comes ahead of all, whatever the tenants are.
func TestWholeAheadOfTenants(t *testing.T) {
	eachPlace(func(c api.Conf, at int) {
		for _, x := range changes() {
			for _, p := range partsOfAll() {
				for _, n := range []int{math.MinInt, -1, 0, most + 1, math.MaxInt} {
					with := copied(c)
					x.make(&with.Tenants[at])
					*p.of(&with) = n
					checkWhy(t, with, -1, 1)
				}
			}
		}
	})
	for _, x := range changes() {
		c := some(5)
		x.make(&c.Tenants[0])
		checkWhy(t, c, -1, 1)
	}
}

// P13.1: where several tenants have faults, that of the first of these is told, whichever it is, and whatever those behind it have; of one tenant, 2 ahead of 3.
func TestFirstTenant(t *testing.T) {
	for n := 1; n <= 4; n++ {
		for at := range n {
			for _, x := range changes() {
				for behind := at; behind < n; behind++ {
					for _, y := range changes() {
						checkTwo(t, some(n), at, behind, x, y)
					}
				}
			}
		}
	}
}

// checkTwo makes two changes, at one place or at two.
func checkTwo(t *testing.T, c api.Conf, at, behind int, x, y change) {
	t.Helper()
	y.make(&c.Tenants[behind])
	x.make(&c.Tenants[at])
	switch {
	case at == behind:
		checkAsWanted(t, c)
	case x.no != 0:
		checkWhy(t, c, at, x.no)
	case y.no != 0:
		checkWhy(t, c, behind, y.no)
	default:
		checkWhy(t, c, -1, 0)
	}
}

// P13.1: of one tenant with a host and a port of one ahead: the host is told; and of several such the first one.
func TestHostAheadOfPorts(t *testing.T) {
	for n := 2; n <= 4; n++ {
		for at := 1; at < n; at++ {
			c := some(n)
			c.Tenants[at] = c.Tenants[at-1]
			checkWhy(t, c, at, 2)
			c.Tenants[at].Host = "ftp.z"
			checkWhy(t, c, at, 3)
			if at+1 < n {
				c.Tenants[at+1].Host = "ftp.a"
				checkWhy(t, c, at, 3)
				c.Tenants[at].Low, c.Tenants[at].High = 9000, 9000
				checkWhy(t, c, at+1, 2)
			}
		}
	}
	c := some(4)
	c.Tenants[1].Low = c.Tenants[0].High
	c.Tenants[2].Name = ""
	c.Tenants[3].Host = "ftp.a"
	checkWhy(t, c, 1, 3)
	c.Tenants[1].Low = c.Tenants[1].High
	checkWhy(t, c, 2, 2)
	c.Tenants[2].Name = "c"
	checkWhy(t, c, 3, 2)
	c.Tenants[3].Host = "ftp.d"
	checkWhy(t, c, -1, 0)
}

// P13.2: what Check tells, as a text, and as an error of each kind alone.
func TestErrors(t *testing.T) {
	for _, x := range []struct {
		change func(c *api.Conf)
		at, no int
		text   string
	}{
		{func(c *api.Conf) { c.Pre = 0 }, -1, 1, "conf"}, {func(c *api.Conf) { c.Tenants[0].Name = "" }, 0, 2, "at 0: tenant"}, {func(c *api.Conf) { c.Tenants[3].Host = "ftp.a" }, 3, 2, "at 3: tenant"}, {func(c *api.Conf) { c.Tenants[1].High = 0 }, 1, 3, "at 1: ports"},
	} {
		c := some(4)
		x.change(&c)
		checkWhy(t, c, x.at, x.no)
		err := Check(c)
		if err == nil || err.Error() != x.text {
			t.Errorf("Check = %v, want %q", err, x.text)
		}
		for _, other := range append(errorsOf()[1:], errors.New("conf"), errors.New("tenant"), errors.New("ports")) {
			if errors.Is(err, other) != (other == errorsOf()[x.no]) {
				t.Errorf("Check = %v: that is %v, or should be", err, other)
			}
		}
	}
	if err := Check(some(4)); err != nil || errors.As(err, new(fault)) {
		t.Errorf("Check = %v of a conf that may be", err)
	}
}

// drawn is a conf by chance, of which most may be. What is not lies at an edge.
func drawn(chance *rand.Rand) api.Conf {
	c := some(1 + chance.Intn(4))
	for _, p := range partsOfAll() {
		*p.of(&c) = drawnNumber(chance, p.low, p.high)
	}
	for i := range c.Tenants {
		x := &c.Tenants[i]
		for _, p := range partsOfTenants() {
			*p.of(x) = drawnNumber(chance, p.low, p.high)
		}
		x.Name = drawnOf(chance, goodUsers(), noUsers())
		x.Host = drawnOf(chance, goodNames(), noNames())
		x.Rules = drawnOf(chance, goodRules(), noRules())
		x.Low = drawnOf(chance, []int{1024, 1030, 1040, 1050, 1060, 1070, 1080, 1090, 65530, 65535}, []int{1023, 65536})
		x.High = x.Low + drawnOf(chance, []int{0, 0, 0, 5, 9, 10}, []int{-1, 70000})
	}
	return c
}

func drawnNumber(chance *rand.Rand, low, high int) int {
	return drawnOf(chance, []int{low, low + 1, high - 1, high}, []int{low - 1, high + 1})
}

// drawnOf is one of those that may be, and but now and then one of the others.
func drawnOf[T any](chance *rand.Rand, good, bad []T) T {
	if chance.Intn(60) == 0 {
		return bad[chance.Intn(len(bad))]
	}
	return good[chance.Intn(len(good))]
}

// P13.1, P13.2, P13.3: confs by chance, of which many may be.
func TestByChance(t *testing.T) {
	chance := rand.New(rand.NewSource(13))
	told := []int{0, 0, 0, 0}
	for range 40000 {
		c := drawn(chance)
		no := checkAsWanted(t, c)
		told[no]++
		if no == 0 {
			checkApart(t, c)
		}
	}
	for no, n := range told {
		if n < 1000 {
			t.Errorf("only %d told %d", n, no)
		}
	}
}

// P13.3: of confs that may be with all ports that there are: each is but one's. Such a conf with any two tenants' ports, or hosts, alike is none.
func TestApart(t *testing.T) {
	for n := 1; n <= 4; n++ {
		c := some(n)
		for i := range n {
			c.Tenants[i].Low, c.Tenants[i].High = 1024+16128*i, 1024+16128*(i+1)-1
		}
		checkWhy(t, c, -1, 0)
		checkApart(t, c)
		for i := range n {
			for j := i + 1; j < n; j++ {
				alike := copied(c)
				alike.Tenants[j].Host = alike.Tenants[i].Host
				checkWhy(t, alike, j, 2)
				for _, p := range []int{c.Tenants[i].Low, c.Tenants[i].Low + 1, c.Tenants[i].Low + 8000, c.Tenants[i].High} {
					alike := copied(c)
					alike.Tenants[j].Low, alike.Tenants[j].High = p, p
					checkWhy(t, alike, j, 3)
				}
			}
		}
	}
}

// R3: tenants and rules stay as they were, also those behind the ends of their lists; and what was told stays so, whatever becomes of the conf.
func TestStays(t *testing.T) {
	for n := 1; n <= 4; n++ {
		for _, x := range changes() {
			room := some(4)
			for i := range room.Tenants {
				room.Tenants[i].Rules = slices.Grow(room.Tenants[i].Rules, 8)
			}
			x.make(&room.Tenants[n-1])
			before, c := copied(room), room
			c.Tenants = room.Tenants[:n]
			at, no := Why(c)
			err := Check(c)
			if May(c) != (no == 0) || !reflect.DeepEqual(room, before) {
				t.Fatalf("of %s came %s", short(before), short(room))
			}
			clear(room.Tenants)
			checkError(t, err, at, no)
			checkWhy(t, c, 0, 2)
		}
	}
}

// R5: nothing hangs on what was asked before.
func TestAfterOthers(t *testing.T) {
	for _, x := range changes() {
		other := some(3)
		x.make(&other.Tenants[1])
		Why(other)
		May(other)
		err := Check(other)
		checkWhy(t, some(2), -1, 0)
		c := some(3)
		c.Tenants[2].Low = 2000
		checkWhy(t, c, 2, 3)
		c.Idle = 0
		checkWhy(t, c, -1, 1)
		checkError(t, err, map[int]int{0: -1, 2: 1, 3: 1}[x.no], x.no)
	}
}

// P1: very long texts and lists are answered, too.
func TestVeryLong(t *testing.T) {
	const n = 1 << 22
	c := some(4)
	c.Tenants[3].Name = long("a", n)
	checkWhy(t, c, 3, 2)
	c = some(4)
	c.Tenants[3].Host = long("a", n)
	checkWhy(t, c, 3, 2)
	c = some(4)
	c.Tenants[3].Rules = []api.Rule{{Verb: long("a", n), Path: long("/", n)}}
	checkWhy(t, c, 3, 2)
	c = some(4)
	c.Tenants[3].Rules = make([]api.Rule, n)
	checkWhy(t, c, 3, 2)
	c.Tenants = slices.Repeat(some(4).Tenants, 1<<16)
	checkWhy(t, c, -1, 1)
}
