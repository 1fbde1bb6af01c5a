package login

import (
	"math"
	"math/rand"
	"reflect"
	"regexp"
	"slices"
	"strings"
	"testing"

	"wharfinger/api"
)

// The phases and acts by the document's own numbers, so that a table by hand tells them.
const (
	needUser, dialing, greet, userSent, needPass, passSent, isIn, gone = 0, 1, 2, 3, 4, 5, 6, 7
	nothing, tellUser, tellOn, tellOff, tellIn                         = 0, 1, 2, 3, 4
)

// What a user is, and an argument that tells one, and where, by patterns: the last sign cuts, as no host has one.
var (
	userOf = regexp.MustCompile(`\A[!-~]{1,60}\z`)
	argOf  = regexp.MustCompile(`\A([!-~]{1,60})@([\-.0-9a-z]{1,60})\z`)
)

// fresh is what New has to be.
var fresh = api.Login{Phase: 0, Tenant: -1, User: ""}

// phases are all that there are, those beside them, and others that are none.
var phases = []int{math.MinInt, math.MinInt + 1, -1 << 40, -256, -2, -1, 0, 1, 2, 3, 4, 5, 6, 7, 8, 9, 10, 220, 256, 257, 258, 259, 260, 261, 262, 1 << 32, 1<<32 + 2, 1<<32 + 3, math.MaxInt - 1, math.MaxInt}

// places are those of tenants, and others that are none.
var places = []int{math.MinInt, math.MinInt + 1, -256, -5, -4, -2, -1, 0, 1, 2, 3, 4, 5, 255, 256, 1 << 32, math.MaxInt - 1, math.MaxInt}

// goodUsers may be users.
func goodUsers() []string {
	return []string{"a", "me", "ME", "0", "-", "@", "@@", "me@x", "a@b@c", "!", "~", "anonymous", "a/b", "\\", "\"", "*", long("a", 59), long("a", 60), long("@", 60), long("~", 60)}
}

// badUsers may not be users; an empty one is none, too.
func badUsers() []string {
	return []string{" ", "  ", " me", "me ", "m e", "\t", "me\t", "\r", "\n", "me\r\n", "\x00", "me\x00", "\x1f", "\x7f", "\x80", "\xff", "m\xffe", "\u00e9", "me\u00a0", long("a", 61), long("a", 62), long("@", 61), long("a", 120), long("a", 256), long("a", 316), long("a", 1<<16), long(" ", 60), long("a", 59) + " ", long("\u00e9", 30)}
}

// badArgs are split into no user and host.
func badArgs() []string {
	return []string{"", "@", "@@", "@@@", "me", "ftp.a", "me@", "@ftp.a", "me@ftp.a@", " @ftp.a", "me @ftp.a", " me@ftp.a", "m e@ftp.a", "me@ ftp.a", "me@ftp.a ", "me@ftp a", "me@FTP.A", "me@Ftp.a", "me@ftp.A", "me@ftp_a", "me@ftp.a/", "me@ftp.a:21", "me@[::1]", "me@@", "me\x00@ftp.a", "me\r@ftp.a", "me\n@ftp.a", "\xff@ftp.a", "m\u00e9@ftp.a", "me@ftp.\u00e0", "me@ftp.a\r\n", "me@ftp.a\n", "me@ftp.a\x00", "me\uff20ftp.a", "me\x00ftp.a", "me ftp.a", long("a", 61) + "@ftp.a", long("@", 61) + "ftp.a" + "@ftp.a", "@" + long("a", 60), "me@" + long("a", 61), "me@" + long("a", 1<<16), long("a", 1<<16) + "@ftp.a", long("@", 1<<16), "USER me@ftp.a"}
}

func long(s string, n int) string { return strings.Repeat(s, n) }

// tenants have those hosts, and else what no call may hang on: some have another one's host as Name.
func tenants(hosts ...string) []api.Tenant {
	l := make([]api.Tenant, len(hosts))
	for i, host := range hosts {
		l[i] = api.Tenant{Name: hosts[(i+1)%len(hosts)], Host: host, At: api.End{Host: api.Host{10, 0, 0, byte(i)}, Port: 21}, Low: 2000 + i, High: 2010 + i, Rules: []api.Rule{{Allow: i%2 == 0, Verb: "RETR", Path: "/" + host}}, Sessions: i, Holes: 1, Quota: i << 20, Each: i}
	}
	return l
}

// oddTenants have those hosts, and all else of them is what may not be.
func oddTenants(hosts ...string) []api.Tenant {
	l := tenants(hosts...)
	for i := range l {
		l[i] = api.Tenant{Name: "", Host: l[i].Host, At: api.End{Port: -1}, Low: 65536, High: -1, Rules: make([]api.Rule, 9), Sessions: -1, Holes: math.MaxInt, Quota: math.MinInt, Each: -1}
	}
	return l
}

// copied are the same tenants in new memory, nil where they are.
func copied(l []api.Tenant) []api.Tenant {
	l = slices.Clone(l)
	for i := range l {
		l[i].Rules = slices.Clone(l[i].Rules)
	}
	return l
}

func hostsOf(l []api.Tenant) []string {
	all := []string{}
	for _, x := range l {
		all = append(all, x.Host)
	}
	return all
}

// logins are one of each phase, tenant and user that are listed.
func logins(users []string, f func(l api.Login)) {
	for _, phase := range phases {
		for _, place := range places {
			for _, user := range users {
				f(api.Login{Phase: phase, Tenant: place, User: user})
			}
		}
	}
}

// someUsers are one that is empty, two that may be, and three that may not.
var someUsers = []string{"", "a", "me@x", " ", "m e", strings.Repeat("a", 61)}

// mayLogins are those that may be, of two users.
func mayLogins() []api.Login {
	all := []api.Login{{Phase: needUser, Tenant: -1}, {Phase: gone, Tenant: -1}}
	for _, phase := range []int{dialing, greet, userSent, needPass, passSent, isIn} {
		for _, place := range []int{0, 1, 2, 3} {
			for _, user := range []string{"a", "me@x"} {
				all = append(all, api.Login{Phase: phase, Tenant: place, User: user})
			}
		}
	}
	return all
}

// wantMay is May as the tests have it: by lists of what may be.
func wantMay(l api.Login) bool {
	if slices.Contains([]int{needUser, gone}, l.Phase) {
		return slices.Contains([]int{-1}, l.Tenant) && len(l.User) == 0
	}
	return slices.Contains([]int{dialing, greet, userSent, needPass, passSent, isIn}, l.Phase) && slices.Contains([]int{0, 1, 2, 3}, l.Tenant) && userOf.MatchString(l.User)
}

// wantUser is User as the tests have it: by a pattern.
func wantUser(l api.Login, all []api.Tenant, arg string) (api.Login, api.Errno) {
	m := argOf.FindStringSubmatch(arg)
	if l.Phase != needUser {
		return l, 7
	}
	if m == nil {
		return l, 2
	}
	at := slices.Index(hostsOf(all), m[2])
	if at == -1 {
		return l, 3
	}
	return api.Login{Phase: dialing, Tenant: at, User: m[1]}, 0
}

// wantHeard is Heard as the tests have it: phase by phase, a line a code.
func wantHeard(l api.Login, code int) (api.Login, int) {
	var to, act int
	switch k := [2]int{l.Phase, code}; {
	case code <= 199:
		return l, nothing
	case l.Phase != 2 && l.Phase != 3 && l.Phase != 5:
		return l, nothing
	case k == [2]int{2, 220}:
		to, act = 3, 1
	case k == [2]int{3, 331}:
		to, act = 4, 2
	case k == [2]int{3, 230}, k == [2]int{3, 232}, k == [2]int{5, 230}, k == [2]int{5, 232}:
		to, act = 6, 4
	default:
		return fresh, 3
	}
	return api.Login{Phase: to, Tenant: l.Tenant, User: l.User}, act
}

func checkMay(t *testing.T, l api.Login, want bool) {
	t.Helper()
	if got := May(l); got != want {
		t.Errorf("May(%v) = %t, want %t", shown(l), got, want)
	}
	if wantMay(l) != want {
		t.Errorf("the tests' own May(%v) is not %t", shown(l), want)
	}
}

// shown is a login whose user is short enough to be told.
func shown(l api.Login) api.Login {
	l.User = l.User[:min(len(l.User), 70)]
	return l
}

// checkUser holds User against a login and an error, the tests' own as well, and the tenants behind it against those ahead.
func checkUser(t *testing.T, l api.Login, all []api.Tenant, arg string, want api.Login, wantNo api.Errno) {
	t.Helper()
	before := copied(all)
	if got, no := User(l, all, arg); got != want || no != wantNo {
		t.Errorf("User(%v, %.200q, %.140q) = %v, %d, want %v, %d", shown(l), hostsOf(all), arg, shown(got), no, shown(want), wantNo)
	}
	if own, no := wantUser(l, all, arg); own != want || no != wantNo {
		t.Errorf("the tests' own User(%v, %.200q, %.140q) is not %v, %d", shown(l), hostsOf(all), arg, shown(want), wantNo)
	}
	if !reflect.DeepEqual(all, before) {
		t.Errorf("User(%v, %.200q, %.140q) made other tenants of these", shown(l), hostsOf(before), arg)
	}
}

// checkUserAsWanted holds User against what the tests have. It tells the error.
func checkUserAsWanted(t *testing.T, l api.Login, all []api.Tenant, arg string) api.Errno {
	t.Helper()
	want, no := wantUser(l, all, arg)
	checkUser(t, l, all, arg, want, no)
	return no
}

func checkPass(t *testing.T, l api.Login, want api.Login, wantNo api.Errno) {
	t.Helper()
	if got, no := Pass(l); got != want || no != wantNo {
		t.Errorf("Pass(%v) = %v, %d, want %v, %d", shown(l), shown(got), no, shown(want), wantNo)
	}
}

func checkDialed(t *testing.T, l api.Login, up bool, want api.Login, wantNo api.Errno) {
	t.Helper()
	if got, no := Dialed(l, up); got != want || no != wantNo {
		t.Errorf("Dialed(%v, %t) = %v, %d, want %v, %d", shown(l), up, shown(got), no, shown(want), wantNo)
	}
}

// checkHeard holds Heard against a login and an act, and the tests' own as well.
func checkHeard(t *testing.T, l api.Login, code int, want api.Login, act int) {
	t.Helper()
	if got, did := Heard(l, code); got != want || did != act {
		t.Errorf("Heard(%v, %d) = %v, %d, want %v, %d", shown(l), code, shown(got), did, shown(want), act)
	}
	if own, did := wantHeard(l, code); own != want || did != act {
		t.Errorf("the tests' own Heard(%v, %d) is not %v, %d", shown(l), code, shown(want), act)
	}
}

func checkHeardAsWanted(t *testing.T, l api.Login, code int) int {
	t.Helper()
	want, act := wantHeard(l, code)
	checkHeard(t, l, code, want, act)
	return act
}

// P17.1, P17.2, P17.3: the chapter's example, step by step, and what is done at each.
func TestExample(t *testing.T) {
	all := tenants("ftp.a", "ftp.b")
	at := func(phase int) api.Login { return api.Login{Phase: phase, Tenant: 0, User: "me"} }
	l := New()
	checkUser(t, l, all, "me@ftp.a", at(dialing), 0)
	l, _ = User(l, all, "me@ftp.a")
	checkDialed(t, l, true, at(greet), 0)
	l, _ = Dialed(l, true)
	checkHeard(t, l, 120, at(greet), nothing)
	checkHeard(t, l, 220, at(userSent), tellUser)
	l, _ = Heard(l, 220)
	checkHeard(t, l, 331, at(needPass), tellOn)
	l, _ = Heard(l, 331)
	checkPass(t, l, at(passSent), 0)
	l, _ = Pass(l)
	checkHeard(t, l, 230, at(isIn), tellIn)
	l, _ = Heard(l, 230)
	if l != at(isIn) || !May(l) {
		t.Errorf("the example ends at %v", l)
	}
}

// P17.1: New, field by field.
func TestNew(t *testing.T) {
	l := New()
	if l.Phase != 0 {
		t.Errorf("New().Phase = %d, want NeedUser", l.Phase)
	}
	if l.Tenant != -1 {
		t.Errorf("New().Tenant = %d, want -1", l.Tenant)
	}
	if l.User != "" {
		t.Errorf("New().User = %q, want nothing", l.User)
	}
	if l != fresh || !May(l) {
		t.Errorf("New() = %v, want %v, which may be", l, fresh)
	}
}

// P17.1: which may be, and what is none, written by hand: phase by phase, of each tenant with one that may be a user and none.
func TestMay(t *testing.T) {
	for _, x := range []struct {
		phase, place int
		user         string
		want         bool
	}{
		{-1, -1, "", false}, {-1, 0, "me", false}, {-1, 3, "me", false},
		{0, -1, "", true}, {0, -1, "me", false}, {0, 0, "", false}, {0, 0, "me", false}, {0, 3, "", false}, {0, 4, "", false}, {0, -2, "", false},
		{1, -1, "", false}, {1, -1, "me", false}, {1, 0, "", false}, {1, 0, "me", true}, {1, 3, "me", true}, {1, 4, "me", false},
		{2, -1, "", false}, {2, -1, "me", false}, {2, 0, "", false}, {2, 0, "me", true}, {2, 3, "me", true}, {2, 4, "me", false},
		{3, -1, "", false}, {3, -1, "me", false}, {3, 0, "", false}, {3, 0, "me", true}, {3, 3, "me", true}, {3, 4, "me", false},
		{4, -1, "", false}, {4, -1, "me", false}, {4, 0, "", false}, {4, 0, "me", true}, {4, 3, "me", true}, {4, 4, "me", false},
		{5, -1, "", false}, {5, -1, "me", false}, {5, 0, "", false}, {5, 0, "me", true}, {5, 3, "me", true}, {5, 4, "me", false},
		{6, -1, "", false}, {6, -1, "me", false}, {6, 0, "", false}, {6, 0, "me", true}, {6, 3, "me", true}, {6, 4, "me", false},
		{7, -1, "", true}, {7, -1, "me", false}, {7, 0, "", false}, {7, 0, "me", false}, {7, 3, "me", false}, {7, 4, "", false}, {7, -2, "", false},
		{8, -1, "", false}, {8, 0, "me", false}, {8, 3, "me", false}, {9, -1, "", false}, {9, 0, "me", false},
		{math.MinInt, -1, "", false}, {math.MinInt, 0, "me", false}, {math.MaxInt, -1, "", false}, {math.MaxInt, 0, "me", false},
		{0, math.MinInt, "", false}, {0, math.MaxInt, "", false}, {6, math.MinInt, "me", false}, {6, math.MaxInt, "me", false}, {7, math.MinInt, "", false}, {7, math.MaxInt, "", false},
		{6, 1, "me", true}, {6, 2, "me", true}, {6, 2, "me@x", true}, {6, 2, "m e", false}, {0, -1, " ", false}, {7, -1, "\x00", false},
	} {
		checkMay(t, api.Login{Phase: x.phase, Tenant: x.place, User: x.user}, x.want)
	}
	if May(api.Login{}) {
		t.Error("a login of noughts may not be, as its Tenant is 0")
	}
}

// P17.1: each phase with each tenant and each user: just those with all three right may be.
func TestMayOfAll(t *testing.T) {
	n := 0
	users := slices.Concat([]string{""}, goodUsers(), badUsers())
	logins(users, func(l api.Login) {
		checkMay(t, l, wantMay(l))
		if May(l) {
			n++
		}
	})
	if want := 2 + 6*4*len(goodUsers()); n != want {
		t.Errorf("%d may be, want %d", n, want)
	}
	for _, l := range mayLogins() {
		checkMay(t, l, true)
	}
}

// P17.1: each of the three alone is wrong, and no other.
func TestMayOfOneWrong(t *testing.T) {
	for _, l := range mayLogins() {
		nobody := l.Tenant == -1
		for _, phase := range phases {
			m := l
			m.Phase = phase
			checkMay(t, m, phase == 0 && nobody || phase == 7 && nobody || phase >= 1 && phase <= 6 && !nobody)
		}
		for place := -300; place <= 300; place++ {
			m := l
			m.Tenant = place
			checkMay(t, m, nobody && place == -1 || !nobody && place >= 0 && place <= 3)
		}
		for _, user := range goodUsers() {
			m := l
			m.User = user
			checkMay(t, m, !nobody)
		}
		for _, user := range badUsers() {
			m := l
			m.User = user
			checkMay(t, m, false)
		}
		m := l
		m.User = ""
		checkMay(t, m, nobody)
	}
}

// P17.1: users of each byte, alone and at each place of another one, and of each length.
func TestMayOfUsers(t *testing.T) {
	for phase := dialing; phase <= isIn; phase++ {
		l := api.Login{Phase: phase, Tenant: phase % 4}
		for c := range 256 {
			isOne := c >= 33 && c <= 126
			for at := range 4 {
				l.User = "abc"[:at] + string([]byte{byte(c)}) + "abc"[at:]
				checkMay(t, l, isOne)
			}
			l.User = string([]byte{byte(c)})
			checkMay(t, l, isOne)
		}
		for n := range 130 {
			l.User = long("a", n)
			checkMay(t, l, n >= 1 && n <= 60)
		}
	}
}

// P17.2: User, by hand, from one that begins on.
func TestUser(t *testing.T) {
	all := tenants("ftp.a", "ftp.b", "c", "ftp.a")
	at := func(place int, user string) api.Login {
		return api.Login{Phase: dialing, Tenant: place, User: user}
	}
	for _, x := range []struct {
		all  []api.Tenant
		arg  string
		want api.Login
		no   api.Errno
	}{
		{all, "me@ftp.a", at(0, "me"), 0}, {all, "me@ftp.b", at(1, "me"), 0}, {all, "you@c", at(2, "you"), 0},
		{all[1:], "me@ftp.a", at(2, "me"), 0}, {all[3:], "me@ftp.a", at(0, "me"), 0}, {all[:1], "me@ftp.a", at(0, "me"), 0},
		{tenants("x", "x", "x", "x"), "me@x", at(0, "me"), 0}, {tenants("y", "x", "x", "x"), "me@x", at(1, "me"), 0}, {tenants("y", "y", "y", "x"), "me@x", at(3, "me"), 0}, {tenants("y", "x", "y", "x"), "me@x", at(1, "me"), 0},
		{all, "me@x@ftp.a", at(0, "me@x"), 0}, {all, "@@ftp.b", at(1, "@"), 0}, {all, "me@ftp.b@ftp.a", at(0, "me@ftp.b"), 0}, {all, "me@ftp.a@ftp.b", at(1, "me@ftp.a"), 0}, {all, "a@b@c", at(2, "a@b"), 0}, {all, "@@@@c", at(2, "@@@"), 0},
		{all, "ME@ftp.a", at(0, "ME"), 0}, {all, "ftp.a@ftp.b", at(1, "ftp.a"), 0}, {all, "-@c", at(2, "-"), 0}, {all, "a/../b@c", at(2, "a/../b"), 0},
		{all, long("a", 60) + "@c", at(2, long("a", 60)), 0}, {tenants(long("a", 60)), "me@" + long("a", 60), at(0, "me"), 0}, {tenants(long("a", 60)), long("~", 60) + "@" + long("a", 60), at(0, long("~", 60)), 0},
		{all, "me@ftp.c", fresh, 3}, {all, "me@ftp", fresh, 3}, {all, "me@ftp.", fresh, 3}, {all, "me@ftp.aa", fresh, 3}, {all, "me@aftp.a", fresh, 3}, {all, "me@ftp.a.", fresh, 3}, {all, "me@ftp-a", fresh, 3}, {all, "me@tp.a", fresh, 3}, {all, "me@d", fresh, 3}, {all, "ftp.a@me", fresh, 3}, {all, "ftp.a@@x", fresh, 3}, {all, "me@" + long("a", 60), fresh, 3},
		{nil, "me@ftp.a", fresh, 3}, {[]api.Tenant{}, "me@ftp.a", fresh, 3}, {all[:0], "me@ftp.a", fresh, 3}, {all[1:3], "me@ftp.a", fresh, 3}, {make([]api.Tenant, 4), "me@ftp.a", fresh, 3},
		{all, "", fresh, 2}, {all, "me", fresh, 2}, {all, "@", fresh, 2}, {all, "@ftp.a", fresh, 2}, {all, "me@", fresh, 2}, {all, "m e@ftp.a", fresh, 2}, {all, "me@FTP.A", fresh, 2}, {all, long("a", 61) + "@c", fresh, 2}, {all, "me@" + long("a", 61), fresh, 2}, {nil, "", fresh, 2}, {nil, "me", fresh, 2}, {nil, "me@", fresh, 2}, {nil, "me@FTP.A", fresh, 2}, {[]api.Tenant{}, "@ftp.a", fresh, 2},
		{tenants("", "FTP.A"), "me@", fresh, 2}, {tenants("", "FTP.A"), "me@FTP.A", fresh, 2}, {tenants("ftp a", "me"), "me@ftp a", fresh, 2}, {tenants(long("a", 61)), "me@" + long("a", 61), fresh, 2},
	} {
		checkUser(t, New(), x.all, x.arg, x.want, x.no)
	}
}

// P17.2: the tenant is found by its Host alone, not by its Name, where its server is, or what it may have.
func TestUserByHostAlone(t *testing.T) {
	for place := range 4 {
		hosts := []string{"w", "x", "y", "z"}
		for _, all := range [][]api.Tenant{tenants(hosts...), oddTenants(hosts...)} {
			arg := "me@" + hosts[place]
			checkUser(t, New(), all, arg, api.Login{Phase: 1, Tenant: place, User: "me"}, 0)
			all[place].Host = "v"
			all[place].Name = hosts[place]
			checkUser(t, New(), all, arg, fresh, 3)
		}
		all := tenants(hosts...)
		all[3].Host, all[3].At = "10.0.0.0", api.End{Host: api.Host{9, 9, 9, 9}, Port: 21}
		checkUser(t, New(), all, "me@10.0.0.0", api.Login{Phase: 1, Tenant: 3, User: "me"}, 0)
		checkUser(t, New(), all, "me@9.9.9.9", fresh, 3)
		checkUser(t, New(), all, "me@10.0.0.1", fresh, 3)
	}
}

// P17.2: all lists of up to four tenants of three hosts: the first one is told, and none where none has it.
func TestUserOfAllLists(t *testing.T) {
	n := 0
	var more func(hosts []string)
	more = func(hosts []string) {
		for _, host := range []string{"a", "b", "aa", "c"} {
			if checkUserAsWanted(t, New(), tenants(hosts...), "me@"+host) == 0 {
				n++
			}
		}
		if len(hosts) == 4 {
			return
		}
		for _, host := range []string{"a", "b", "aa"} {
			more(append(slices.Clone(hosts), host))
		}
	}
	more(nil)
	if want := 3 * (3 - 2 + 9 - 4 + 27 - 8 + 81 - 16); n != want {
		t.Errorf("%d were found, want %d", n, want)
	}
}

// P17.2, R2: in each other phase that is odd ahead of all else, whatever the argument and the tenants; and the login stays, whatever it is.
func TestUserOutOfOrder(t *testing.T) {
	lists := [][]api.Tenant{nil, {}, tenants("ftp.a"), tenants("ftp.b", "ftp.a")}
	args := []string{"me@ftp.a", "me@ftp.b", "me@ftp.c", "", "me", "@ftp.a", "me@", "me@FTP.A"}
	logins(someUsers, func(l api.Login) {
		for _, all := range lists {
			for _, arg := range args {
				got, no := User(l, all, arg)
				if l.Phase != needUser && (got != l || no != 7) {
					t.Errorf("User(%v, %q, %q) = %v, %d, want it as it was, and 7", shown(l), hostsOf(all), arg, shown(got), no)
				}
				if no != 0 && got != l {
					t.Errorf("User(%v, %q, %q) = %v, %d, want it as it was", shown(l), hostsOf(all), arg, shown(got), no)
				}
			}
		}
	})
}

// P17.2, R2: in NeedUser, also of one that may not be: what is not split is told ahead of what is not found, and of what is found nothing of the login that was is left.
func TestUserOfOnesThatMayNotBe(t *testing.T) {
	all := tenants("ftp.a", "ftp.b")
	for _, place := range places {
		for _, user := range slices.Concat([]string{""}, goodUsers(), badUsers()) {
			l := api.Login{Phase: needUser, Tenant: place, User: user}
			checkUser(t, l, all, "me", l, 2)
			checkUser(t, l, nil, "me@", l, 2)
			checkUser(t, l, all, "me@ftp.c", l, 3)
			checkUser(t, l, nil, "me@ftp.a", l, 3)
			checkUser(t, l, all, "you@ftp.b", api.Login{Phase: dialing, Tenant: 1, User: "you"}, 0)
		}
	}
}

// P17.2: what is not split is of another form, whatever tenants there are, one of which may have just what stands behind the sign.
func TestUserOfBadArgs(t *testing.T) {
	for _, arg := range badArgs() {
		_, host, _ := strings.Cut(arg, "@")
		for _, all := range [][]api.Tenant{nil, tenants("ftp.a"), tenants(arg, host, arg[strings.LastIndex(arg, "@")+1:], "ftp.a"), make([]api.Tenant, 1)} {
			checkUser(t, New(), all, arg, fresh, 2)
		}
	}
	for _, user := range badUsers() {
		checkUser(t, New(), tenants("ftp.a"), user+"@ftp.a", fresh, 2)
	}
	for _, user := range goodUsers() {
		checkUser(t, New(), tenants("ftp.a"), user+"@ftp.a", api.Login{Phase: dialing, Tenant: 0, User: user}, 0)
	}
}

// P17.2: arguments of each byte at each place, and with each byte more.
func TestUserOfEveryByte(t *testing.T) {
	const arg = "me@ftp.a"
	all := tenants("ftp.b", "ftp.a", "e", "p.a")
	for c := range 256 {
		b := string([]byte{byte(c)})
		for at := range len(arg) {
			checkUserAsWanted(t, New(), all, arg[:at]+b+arg[at+1:])
			checkUserAsWanted(t, New(), all, arg[:at]+b+arg[at:])
		}
		checkUserAsWanted(t, New(), all, arg+b)
	}
}

// P17.2: all texts of up to six of a few pieces.
func TestUserOfAllShortArgs(t *testing.T) {
	all := tenants("a", "b.a", "a", "b")
	count := map[api.Errno]int{}
	var more func(s string, n int)
	more = func(s string, n int) {
		count[checkUserAsWanted(t, New(), all, s)]++
		if n == 0 {
			return
		}
		for _, piece := range []string{"a", "b", ".", "@", " ", "A"} {
			more(s+piece, n-1)
		}
	}
	more("", 6)
	if count[0] == 0 || count[2] == 0 || count[3] == 0 || count[7] != 0 {
		t.Errorf("errors were told so often: %v", count)
	}
}

// P17.2: of more tenants than a conf may have the place is told, too, as P17.2 has it: it is P17.1 that has no login there.
func TestUserBeyond(t *testing.T) {
	hosts := []string{"a", "b", "c", "d", "e", "f"}
	for place, host := range hosts {
		want := api.Login{Phase: dialing, Tenant: place, User: "me"}
		checkUser(t, New(), tenants(hosts...), "me@"+host, want, 0)
		checkMay(t, want, place < 4)
	}
	many := make([]api.Tenant, 1<<16)
	many[1<<16-1].Host = "ftp.a"
	checkUser(t, New(), many, "me@ftp.a", api.Login{Phase: dialing, Tenant: 65535, User: "me"}, 0)
	checkUser(t, New(), many, "me@ftp.b", fresh, 3)
}

// P17.2: Pass by hand, phase by phase, of one that may be but for its phase.
func TestPass(t *testing.T) {
	for _, phase := range phases {
		l := api.Login{Phase: phase, Tenant: 2, User: "me"}
		if phase == 4 {
			checkPass(t, l, api.Login{Phase: 5, Tenant: 2, User: "me"}, 0)
		} else {
			checkPass(t, l, l, 7)
		}
	}
	checkPass(t, New(), fresh, 7)
	checkPass(t, api.Login{Phase: 7, Tenant: -1}, api.Login{Phase: 7, Tenant: -1}, 7)
	checkPass(t, api.Login{}, api.Login{}, 7)
}

// P17.2: Pass of all, also of those that may not be: with an error the login stays, and without one all but its phase does.
func TestPassOfAll(t *testing.T) {
	n := 0
	logins(someUsers, func(l api.Login) {
		want, no := l, api.Errno(7)
		if l.Phase == needPass {
			want, no = api.Login{Phase: passSent, Tenant: l.Tenant, User: l.User}, 0
			n++
		}
		checkPass(t, l, want, no)
	})
	if n != len(places)*len(someUsers) {
		t.Errorf("%d were taken, want %d", n, len(places)*len(someUsers))
	}
}

// P17.2: Dialed by hand, phase by phase, with up set and not.
func TestDialed(t *testing.T) {
	for _, phase := range phases {
		l := api.Login{Phase: phase, Tenant: 3, User: "me"}
		if phase == 1 {
			checkDialed(t, l, true, api.Login{Phase: 2, Tenant: 3, User: "me"}, 0)
			checkDialed(t, l, false, fresh, 0)
		} else {
			checkDialed(t, l, true, l, 7)
			checkDialed(t, l, false, l, 7)
		}
	}
	checkDialed(t, New(), true, fresh, 7)
	checkDialed(t, New(), false, fresh, 7)
}

// P17.2: Dialed of all, also of those that may not be.
func TestDialedOfAll(t *testing.T) {
	n := 0
	logins(someUsers, func(l api.Login) {
		there, gone, no := l, l, api.Errno(7)
		if l.Phase == dialing {
			there, gone, no = api.Login{Phase: greet, Tenant: l.Tenant, User: l.User}, fresh, 0
			n++
		}
		checkDialed(t, l, true, there, no)
		checkDialed(t, l, false, gone, no)
	})
	if n != len(places)*len(someUsers) {
		t.Errorf("%d were taken, want %d", n, len(places)*len(someUsers))
	}
}

// P17.3: Heard by hand.
func TestHeard(t *testing.T) {
	at := func(phase int) api.Login { return api.Login{Phase: phase, Tenant: 1, User: "me"} }
	for _, x := range []struct {
		phase, code int
		want        api.Login
		act         int
	}{
		{greet, 220, at(userSent), tellUser}, {greet, 120, at(greet), nothing}, {greet, 199, at(greet), nothing}, {greet, 100, at(greet), nothing}, {greet, 0, at(greet), nothing}, {greet, -220, at(greet), nothing}, {greet, math.MinInt, at(greet), nothing},
		{greet, 200, fresh, tellOff}, {greet, 219, fresh, tellOff}, {greet, 221, fresh, tellOff}, {greet, 230, fresh, tellOff}, {greet, 232, fresh, tellOff}, {greet, 331, fresh, tellOff}, {greet, 421, fresh, tellOff}, {greet, 500, fresh, tellOff}, {greet, 530, fresh, tellOff}, {greet, 600, fresh, tellOff}, {greet, 2200, fresh, tellOff}, {greet, math.MaxInt, fresh, tellOff},
		{userSent, 331, at(needPass), tellOn}, {userSent, 230, at(isIn), tellIn}, {userSent, 232, at(isIn), tellIn}, {userSent, 120, at(userSent), nothing}, {userSent, 199, at(userSent), nothing}, {userSent, 0, at(userSent), nothing}, {userSent, -331, at(userSent), nothing}, {userSent, math.MinInt, at(userSent), nothing},
		{userSent, 200, fresh, tellOff}, {userSent, 202, fresh, tellOff}, {userSent, 220, fresh, tellOff}, {userSent, 229, fresh, tellOff}, {userSent, 231, fresh, tellOff}, {userSent, 233, fresh, tellOff}, {userSent, 330, fresh, tellOff}, {userSent, 332, fresh, tellOff}, {userSent, 421, fresh, tellOff}, {userSent, 530, fresh, tellOff}, {userSent, math.MaxInt, fresh, tellOff},
		{passSent, 230, at(isIn), tellIn}, {passSent, 232, at(isIn), tellIn}, {passSent, 120, at(passSent), nothing}, {passSent, 199, at(passSent), nothing}, {passSent, 0, at(passSent), nothing}, {passSent, -230, at(passSent), nothing}, {passSent, math.MinInt, at(passSent), nothing},
		{passSent, 200, fresh, tellOff}, {passSent, 202, fresh, tellOff}, {passSent, 220, fresh, tellOff}, {passSent, 231, fresh, tellOff}, {passSent, 331, fresh, tellOff}, {passSent, 332, fresh, tellOff}, {passSent, 421, fresh, tellOff}, {passSent, 530, fresh, tellOff}, {passSent, math.MaxInt, fresh, tellOff},
		{needUser, 220, at(needUser), nothing}, {dialing, 220, at(dialing), nothing}, {dialing, 421, at(dialing), nothing}, {needPass, 230, at(needPass), nothing}, {needPass, 331, at(needPass), nothing}, {needPass, 530, at(needPass), nothing}, {isIn, 230, at(isIn), nothing}, {isIn, 421, at(isIn), nothing}, {isIn, 530, at(isIn), nothing}, {gone, 220, at(gone), nothing}, {gone, 530, at(gone), nothing},
		{-1, 220, at(-1), nothing}, {8, 220, at(8), nothing}, {-1, 530, at(-1), nothing}, {8, 530, at(8), nothing}, {math.MinInt, 230, at(math.MinInt), nothing}, {math.MaxInt, 230, at(math.MaxInt), nothing}, {math.MinInt, 530, at(math.MinInt), nothing}, {math.MaxInt, 530, at(math.MaxInt), nothing},
	} {
		checkHeard(t, at(x.phase), x.code, x.want, x.act)
	}
	checkHeard(t, New(), 220, fresh, nothing)
	checkHeard(t, New(), 530, fresh, nothing)
}

// codes are all from below 0 to beyond 600, and others.
func codes() []int {
	all := []int{math.MinInt, math.MinInt + 1, -1 << 40, -1 << 32, 1024, 1200, 2200, 2300, 3310, 65535, 65536, 65536 + 220, 65536 + 230, 1<<32 + 220, 1<<32 + 230, 1<<32 + 232, 1<<32 + 331, 1 << 40, math.MaxInt - 1, math.MaxInt}
	for code := -600; code <= 1000; code++ {
		all = append(all, code)
	}
	return all
}

// P17.3: each phase, and numbers that are none, with each code: just six of them lead on.
func TestHeardOfAll(t *testing.T) {
	all := codes()
	count := map[int]int{}
	for _, phase := range phases {
		for _, code := range all {
			count[checkHeardAsWanted(t, api.Login{Phase: phase, Tenant: phase & 3, User: "me"}, code)]++
		}
	}
	from200 := 0
	for _, code := range all {
		if code >= 200 {
			from200++
		}
	}
	if count[tellUser] != 1 || count[tellOn] != 1 || count[tellIn] != 4 || count[tellOff] != 3*from200-6 || count[nothing] != len(phases)*len(all)-3*from200 {
		t.Errorf("acts were told so often: %v", count)
	}
}

// P17.3: what the login is else, also where it may not be, changes nothing of what is done, and stays, but where that is told off.
func TestHeardOfAnyLogin(t *testing.T) {
	some := []int{math.MinInt, -1, 0, 120, 199, 200, 219, 220, 221, 229, 230, 231, 232, 233, 330, 331, 332, 421, 530, 600, math.MaxInt}
	logins(someUsers, func(l api.Login) {
		for _, code := range some {
			checkHeardAsWanted(t, l, code)
		}
	})
}

// P17.3: what is told off is as New tells, and may be, also of one that may not.
func TestToldOffIsNew(t *testing.T) {
	for _, phase := range []int{greet, userSent, passSent} {
		for _, place := range places {
			for _, user := range slices.Concat([]string{""}, goodUsers(), badUsers()) {
				l, act := Heard(api.Login{Phase: phase, Tenant: place, User: user}, 530)
				if l != New() || act != tellOff || !May(l) {
					t.Errorf("of phase %d, tenant %d and %.70q 530 leads to %v, %d", phase, place, user, shown(l), act)
				}
			}
		}
	}
}

// checkCalls holds all that calls make of one that may be to what may be.
func checkCalls(t *testing.T, l api.Login, codes []int, lists [][]api.Tenant, args []string) []api.Login {
	t.Helper()
	passed, _ := Pass(l)
	there, _ := Dialed(l, true)
	off, _ := Dialed(l, false)
	out := []api.Login{passed, there, off}
	for _, code := range codes {
		m, act := Heard(l, code)
		if act < 0 || act >= api.Acts {
			t.Fatalf("Heard(%v, %d) told to do %d", l, code, act)
		}
		if (m.Phase == isIn) != (l.Phase == isIn || act == tellIn && (code == 230 || code == 232)) {
			t.Fatalf("Heard(%v, %d) = %v, %d", l, code, m, act)
		}
		out = append(out, m)
	}
	for _, all := range lists {
		for _, arg := range args {
			m, _ := User(l, all, arg)
			out = append(out, m)
		}
	}
	for _, m := range out {
		if !May(m) || !wantMay(m) {
			t.Fatalf("of %v came %v, which may not be", l, m)
		}
	}
	return out
}

// P17.4: all that may be stay so behind each call, whatever it is handed, of as many tenants as a conf may have. None but Heard leads to In, and that only of a code by which the server told so.
func TestStaysOneThatMayBe(t *testing.T) {
	codes := codes()
	lists := [][]api.Tenant{nil, {}, tenants("ftp.a"), tenants("ftp.b", "ftp.a", "x", "x"), tenants("a", "b", "c", "x"), oddTenants("", "FTP.A", "ftp.a", "x")}
	args := slices.Concat(badArgs(), []string{"me@ftp.a", "me@ftp.b", "me@x@ftp.a", "me@x", "me@y", long("a", 60) + "@x"})
	for _, l := range mayLogins() {
		out := checkCalls(t, l, codes, lists, args)
		if l.Phase == isIn {
			continue
		}
		for _, m := range slices.Concat(out[:3], out[3+len(codes):]) {
			if m.Phase == isIn {
				t.Errorf("of %v came %v, which no server told", l, m)
			}
		}
	}
}

// P17.4: which phases each call may lead to from each other one, and that none leads to or from Gone, and none out of In.
func TestWaysThroughPhases(t *testing.T) {
	want := map[int][]int{
		needUser: {needUser, dialing},
		dialing:  {needUser, dialing, greet},
		greet:    {needUser, greet, userSent},
		userSent: {needUser, userSent, needPass, isIn},
		needPass: {needPass, passSent},
		passSent: {needUser, passSent, isIn},
		isIn:     {isIn},
		gone:     {gone},
	}
	lists, args := [][]api.Tenant{tenants("ftp.a")}, []string{"me@ftp.a", "me@x", "me"}
	for _, l := range mayLogins() {
		var got []int
		for _, m := range checkCalls(t, l, codes(), lists, args) {
			got = append(got, m.Phase)
		}
		slices.Sort(got)
		if got = slices.Compact(got); !slices.Equal(got, want[l.Phase]) {
			t.Errorf("of %v come the phases %v, want %v", l, got, want[l.Phase])
		}
	}
}

// P17.4: from New on, by steps of chance. What there should be is kept beside it, told by the steps alone; one that is in has just been told so.
func TestStepsByChance(t *testing.T) {
	r := rand.New(rand.NewSource(171))
	ins := 0
	for range 3000 {
		l, told := New(), false
		for range 40 {
			before := l
			var no api.Errno
			switch r.Intn(6) {
			case 0:
				arg := []string{"me@ftp.a", "you@ftp.b", "me@x@c", "me@d", "me", "@c"}[r.Intn(6)]
				all := tenants([]string{"ftp.a", "ftp.b", "c", "ftp.a"}[r.Intn(3):]...)
				want, wantNo := wantUser(l, all, arg)
				checkUser(t, l, all, arg, want, wantNo)
				l, no = User(l, all, arg)
			case 1:
				l, no = Pass(l)
			case 2:
				l, no = Dialed(l, r.Intn(4) > 0)
			default:
				code := []int{120, 220, 220, 230, 232, 331, 331, 421, 530}[r.Intn(9)]
				asked := l.Phase == userSent || l.Phase == passSent
				checkHeardAsWanted(t, l, code)
				l, _ = Heard(l, code)
				told = told || asked && (code == 230 || code == 232)
			}
			if no != 0 && l != before || !May(l) || (l.Phase == isIn) != told {
				t.Fatalf("%v became %v, %d, and was told %t", before, l, no, told)
			}
			if before.Phase == isIn && l != before {
				t.Fatalf("%v was in and became %v", before, l)
			}
		}
		if l.Phase == isIn {
			ins++
		}
	}
	if ins < 100 {
		t.Errorf("just %d came in", ins)
	}
}

// P17.4: the tenant and the user that one told stay the same till it is in, or is told off.
func TestStaysOfItsTenant(t *testing.T) {
	all := tenants("ftp.a", "ftp.b", "c", "d")
	for place, host := range hostsOf(all) {
		for _, user := range goodUsers() {
			at := func(phase int) api.Login { return api.Login{Phase: phase, Tenant: place, User: user} }
			for _, code := range []int{230, 232} {
				checkUser(t, New(), all, user+"@"+host, at(dialing), 0)
				checkDialed(t, at(dialing), true, at(greet), 0)
				checkHeard(t, at(greet), 220, at(userSent), tellUser)
				checkHeard(t, at(userSent), 331, at(needPass), tellOn)
				checkPass(t, at(needPass), at(passSent), 0)
				checkHeard(t, at(passSent), code, at(isIn), tellIn)
				checkHeard(t, at(userSent), code, at(isIn), tellIn)
			}
		}
	}
}

// R1, P1: whatever is handed in, each call ends and is what the tests have, by chance.
func TestChance(t *testing.T) {
	r := rand.New(rand.NewSource(172))
	users := slices.Concat(someUsers, goodUsers(), badUsers())
	args := slices.Concat(badArgs(), []string{"me@ftp.a", "me@ftp.b", "me@x@ftp.a", "me@x", "@@c"})
	hosts := []string{"ftp.a", "ftp.b", "c", "x", "", "FTP.A", "me"}
	for range 50000 {
		l := api.Login{Phase: r.Intn(12) - 2, Tenant: r.Intn(8) - 2, User: users[r.Intn(len(users))]}
		if r.Intn(10) == 0 {
			l.Phase, l.Tenant = int(r.Uint64()), int(r.Uint64())
		}
		var of []string
		for range r.Intn(5) {
			of = append(of, hosts[r.Intn(len(hosts))])
		}
		checkMay(t, l, wantMay(l))
		checkUserAsWanted(t, l, tenants(of...), args[r.Intn(len(args))])
		checkHeardAsWanted(t, l, r.Intn(700)-50)
		checkHeardAsWanted(t, l, int(r.Uint64()))
	}
}

// R3: neither the tenants that are handed in nor those behind them are changed, whatever is told.
func TestTenantsStay(t *testing.T) {
	whole := tenants("a", "b", "c", "d", "e")
	before := copied(whole)
	for n := range len(whole) + 1 {
		for _, arg := range []string{"me@a", "me@d", "me@e", "me@f", "me", "", "@a"} {
			for _, phase := range phases {
				User(api.Login{Phase: phase, Tenant: -1}, whole[:n], arg)
				User(api.Login{Phase: phase, Tenant: 1, User: "me"}, whole[n:], arg)
			}
		}
		if !reflect.DeepEqual(whole, before) {
			t.Fatalf("the tenants became others: %v", whole)
		}
	}
}

// R3: what is answered stays as it was, whatever becomes of the tenants.
func TestAnswersStay(t *testing.T) {
	all := tenants("a", "b")
	l, no := User(New(), all, "me@b")
	clear(all)
	if want := (api.Login{Phase: dialing, Tenant: 1, User: "me"}); l != want || no != 0 {
		t.Errorf("it became %v, %d, want %v", l, no, want)
	}
}

// R5: nothing hangs on what was asked before.
func TestAfterOthers(t *testing.T) {
	all := tenants("ftp.a", "ftp.b")
	at := func(phase int) api.Login { return api.Login{Phase: phase, Tenant: 1, User: "me"} }
	for i := range 50 {
		for _, phase := range phases {
			l := api.Login{Phase: phase, Tenant: i, User: "you"}
			User(l, oddTenants("ftp.b", "ftp.a"), "you@ftp.a")
			Pass(l)
			Dialed(l, i%2 == 0)
			Heard(l, 200+i)
			Heard(l, 331)
		}
		if New() != fresh || May(api.Login{}) {
			t.Fatal("New, or what may be, became another one")
		}
		checkUser(t, New(), all, "me@ftp.b", at(dialing), 0)
		checkDialed(t, at(dialing), true, at(greet), 0)
		checkDialed(t, at(dialing), false, fresh, 0)
		checkHeard(t, at(greet), 220, at(userSent), tellUser)
		checkHeard(t, at(userSent), 331, at(needPass), tellOn)
		checkPass(t, at(needPass), at(passSent), 0)
		checkHeard(t, at(passSent), 232, at(isIn), tellIn)
		checkHeard(t, at(passSent), 331, fresh, tellOff)
	}
}

// The numbers of the chapter are those of api.
func TestNumbers(t *testing.T) {
	if api.NeedUser != needUser || api.Dialing != dialing || api.Greet != greet || api.UserSent != userSent || api.NeedPass != needPass || api.PassSent != passSent || api.In != isIn || api.Gone != gone || api.Phases != 8 {
		t.Error("the phases are others")
	}
	if api.Nothing != nothing || api.TellUser != tellUser || api.TellOn != tellOn || api.TellOff != tellOff || api.TellIn != tellIn || api.Acts != 5 {
		t.Error("the acts are others")
	}
	if api.OK != 0 || api.ErrForm != 2 || api.ErrNone != 3 || api.ErrOdd != 7 || api.MaxAll != 4 || api.MaxText != 60 {
		t.Error("the bounds and errors are others")
	}
}
