package route

import (
	"math/rand"
	"reflect"
	"regexp"
	"slices"
	"strings"
	"testing"

	"wharfinger/api"
)

// What texts have to be, told by patterns: a text that is split is one whole, as no name of a host has the sign.
var (
	nameOf  = regexp.MustCompile(`\A[\-.0-9a-z]{1,60}\z`)
	userOf  = regexp.MustCompile(`\A[!-~]{1,60}\z`)
	splitOf = regexp.MustCompile(`\A([!-~]{1,60})@([\-.0-9a-z]{1,60})\z`)
)

// The bytes of a name, and those of a user, written by hand.
const (
	ofNames = "abcdefghijklmnopqrstuvwxyz0123456789.-"
	ofUsers = "!\"#$%&'()*+,-./0123456789:;<=>?@ABCDEFGHIJKLMNOPQRSTUVWXYZ[\\]^_`abcdefghijklmnopqrstuvwxyz{|}~"
)

// goodNames are names, and so users too.
func goodNames() []string {
	return []string{"a", "z", "0", "9", ".", "-", "ftp.a", "b-1", "ftp.example.org", "10.0.0.1", "..", "--", ".a", "a.", "-a", "a-", "a..b", "-.-", "user", "localhost", "xn--a", long("a", 59), long("a", 60), long(".", 60), long("-", 60), long("9", 60), ofNames}
}

// onlyUsers are users, but no names.
func onlyUsers() []string {
	return []string{"A", "Z", "@", "_", "~", "!", "/", ":", "a_b", "FTP.A", "ftp.A", "Ftp.a", "me@x", "@me", "me@", "@@", "a@b@c", "a:b", "a/b", "a,b", "*", "\\", "\"", "`", "{", "[", "a+b", "[::1]", "me@ftp.a", long("A", 60), long("@", 60), long("~", 60), long("!", 60), long("a", 59) + "A", "@" + long("a", 59), ofUsers[:60], ofUsers[34:]}
}

// neither are no users, and so no names.
func neither() []string {
	all := []string{"", " ", "  ", " a", "a ", "a b", "m e", "a  b", " @", "@ ", long(" ", 60), long("a", 61), long("A", 61), long("@", 61), long(" ", 61), long("a", 62), long("a", 120), long("a", 255), long("a", 256), long("a", 257), long("a", 316), long("a", 1<<16), long("a", 1<<16+1), ofNames + ofNames, ofUsers, long("a", 59) + " ", " " + long("a", 59), long("\u00e9", 30), long("\u00e9", 60), long("\u00e9", 15) + long("a", 29)}
	for _, b := range strangeBytes {
		all = append(all, b, b+"a", "a"+b, "a"+b+"a", "ftp.a"+b, b+"ftp.a", long("a", 59)+b)
	}
	return all
}

// strangeBytes are some that no user has.
var strangeBytes = []string{"\x00", "\x01", "\b", "\t", "\n", "\v", "\f", "\r", "\r\n", "\x1b", "\x1f", " ", "\x7f", "\x80", "\x9f", "\xa0", "\xc3", "\xc0\x80", "\xed\xa0\x80", "\xf0\x9f", "\xfe", "\xff", "\u00a0", "\u00e9", "\u017f", "\u0130", "\u0131", "\u0660", "\u2003", "\u2028", "\u212a", "\u3002", "\ufeff", "\ufffd", "\uff0d", "\uff0e", "\uff20", "\uff41", "\U0001d41a"}

func long(s string, n int) string {
	return strings.Repeat(s, n)
}

func everyByte(f func(b string)) {
	for c := range 256 {
		f(string([]byte{byte(c)}))
	}
}

// texts calls back with all texts of up to n of those pieces.
func texts(n int, of []string, f func(s string)) {
	more("", n, of, f)
}

func more(s string, n int, of []string, f func(s string)) {
	f(s)
	if n == 0 {
		return
	}
	for _, piece := range of {
		more(s+piece, n-1, of, f)
	}
}

func checkName(t *testing.T, s string, want bool) {
	t.Helper()
	if got := Name(s); got != want {
		t.Errorf("Name(%.70q) = %t, want %t (%d bytes)", s, got, want, len(s))
	}
	if nameOf.MatchString(s) != want {
		t.Errorf("the tests' own Name(%.70q) is not %t (%d bytes)", s, want, len(s))
	}
}

func checkUser(t *testing.T, s string, want bool) {
	t.Helper()
	if got := User(s); got != want {
		t.Errorf("User(%.70q) = %t, want %t (%d bytes)", s, got, want, len(s))
	}
	if userOf.MatchString(s) != want {
		t.Errorf("the tests' own User(%.70q) is not %t (%d bytes)", s, want, len(s))
	}
}

// checkSplit holds Split against a user and a host, or, where it wants no user, against nothing, nothing and false.
func checkSplit(t *testing.T, s, user, host string) {
	t.Helper()
	u, h, is := Split(s)
	if u != user || h != host || is != (user != "") {
		t.Errorf("Split(%.140q) = %.70q, %.70q, %t, want %.70q, %.70q, %t (%d bytes)", s, u, h, is, user, host, user != "", len(s))
	}
	if u, h := wantSplit(s); u != user || h != host {
		t.Errorf("the tests' own Split(%.140q) is not %.70q, %.70q (%d bytes)", s, user, host, len(s))
	}
}

// checkSplitAsWanted holds Split against what the tests have by a pattern. It tells whether that is split.
func checkSplitAsWanted(t *testing.T, s string) bool {
	t.Helper()
	user, host := wantSplit(s)
	checkSplit(t, s, user, host)
	return user != ""
}

// wantSplit is a user and a host, or nothing and nothing.
func wantSplit(s string) (string, string) {
	m := splitOf.FindStringSubmatch(s)
	if m == nil {
		return "", ""
	}
	return m[1], m[2]
}

// checkFind holds Find against a place, and the tenants behind it against those ahead.
func checkFind(t *testing.T, l []api.Tenant, host string, want int) {
	t.Helper()
	before := copied(l)
	if got := Find(l, host); got != want {
		t.Errorf("Find(%.200q, %.70q) = %d, want %d (%d tenants)", hostsOf(l), host, got, want, len(l))
	}
	if slices.Index(hostsOf(l), host) != want {
		t.Errorf("the tests' own Find(%.200q, %.70q) is not %d (%d tenants)", hostsOf(l), host, want, len(l))
	}
	if !reflect.DeepEqual(l, before) {
		t.Errorf("Find(%.200q, %.70q) made other tenants of these", hostsOf(before), host)
	}
}

// copied are the same tenants in new memory, nil where they are.
func copied(l []api.Tenant) []api.Tenant {
	l = slices.Clone(l)
	for i := range l {
		l[i].Rules = slices.Clone(l[i].Rules)
	}
	return l
}

func hostsOf(l []api.Tenant) []string {
	all := []string{}
	for _, x := range l {
		all = append(all, x.Host)
	}
	return all
}

// tenants have those hosts, and else what no call may hang on: some have another one's host as Name.
func tenants(hosts ...string) []api.Tenant {
	l := make([]api.Tenant, len(hosts))
	for i, host := range hosts {
		l[i] = api.Tenant{Name: hosts[(i+1)%len(hosts)], Host: host, At: api.End{Host: api.Host{10, 0, 0, byte(i)}, Port: 21}, Low: 2000 + i, High: 2010 + i, Rules: []api.Rule{{Allow: i%2 == 0, Verb: host, Path: "/" + host}}, Sessions: i, Holes: -i, Quota: i << 20, Each: i}
	}
	return l
}

// P12.1: names, and what is none, written by hand.
func TestName(t *testing.T) {
	for _, s := range goodNames() {
		checkName(t, s, true)
	}
	for _, s := range append(onlyUsers(), neither()...) {
		checkName(t, s, false)
	}
}

// P12.1: users, and what is none, written by hand: each name is a user's too.
func TestUser(t *testing.T) {
	for _, s := range append(goodNames(), onlyUsers()...) {
		checkUser(t, s, true)
	}
	for _, s := range neither() {
		checkUser(t, s, false)
	}
}

// P12.1: the 38 bytes of a name, and the 94 of a user, are what either may have, and no other one.
func TestEveryByteAlone(t *testing.T) {
	if len(ofNames) != 38 || len(ofUsers) != 94 {
		t.Fatalf("there are %d and %d bytes, want 38 and 94", len(ofNames), len(ofUsers))
	}
	everyByte(func(b string) {
		checkName(t, b, strings.Contains(ofNames, b))
		checkUser(t, b, strings.Contains(ofUsers, b))
	})
}

// P12.1: the bytes at the edges of what may be, written by hand.
func TestBytesAtEdges(t *testing.T) {
	for _, x := range []struct {
		b          byte
		name, user bool
	}{
		{0, false, false}, {9, false, false}, {10, false, false}, {13, false, false}, {31, false, false}, {32, false, false}, {33, false, true}, {',', false, true}, {'-', true, true}, {'.', true, true}, {'/', false, true}, {'0', true, true}, {'9', true, true}, {':', false, true}, {'?', false, true}, {'@', false, true}, {'A', false, true}, {'Z', false, true}, {'[', false, true}, {'_', false, true}, {'`', false, true}, {'a', true, true}, {'z', true, true}, {'{', false, true}, {125, false, true}, {126, false, true}, {127, false, false}, {128, false, false}, {'a' | 128, false, false}, {160, false, false}, {254, false, false}, {255, false, false},
	} {
		b := string([]byte{x.b})
		for _, s := range []string{b, b + "a", "a" + b, "a" + b + "a", b + b, b + long("a", 59), long("a", 59) + b, long("a", 30) + b + long("a", 29), long(b, 60)} {
			checkName(t, s, x.name)
			checkUser(t, s, x.user)
		}
		for _, s := range []string{b + long("a", 60), long("a", 60) + b, long(b, 61)} {
			checkName(t, s, false)
			checkUser(t, s, false)
		}
	}
}

// P12.1: each of the 256 bytes at each place of texts of up to 60 that may else be, in place of what stands there, and ahead of it.
func TestEveryByteAtEachPlace(t *testing.T) {
	for _, s := range []string{"ab", "a.b", "ftp.a", "b-1.c", "a@b", "A_~@", long("a", 30), long("-", 59), long("@", 59), long("a", 60), long("~", 60), ofNames} {
		isName := nameOf.MatchString(s)
		for at := range len(s) + 1 {
			everyByte(func(b string) {
				longer := s[:at] + b + s[at:]
				checkName(t, longer, isName && strings.Contains(ofNames, b) && len(s) < 60)
				checkUser(t, longer, strings.Contains(ofUsers, b) && len(s) < 60)
				if at < len(s) {
					other := s[:at] + b + s[at+1:]
					checkName(t, other, nameOf.MatchString(other))
					checkUser(t, other, strings.Contains(ofUsers, b))
				}
			})
		}
	}
}

// P12.1: from 1 to 60 bytes, whatever these are.
func TestLengths(t *testing.T) {
	for n := 0; n <= 1<<10; n++ {
		for _, b := range []string{"a", "0", ".", "-"} {
			checkName(t, long(b, n), n >= 1 && n <= 60)
			checkUser(t, long(b, n), n >= 1 && n <= 60)
		}
		for _, b := range []string{"A", "@", "~", "_"} {
			checkName(t, long(b, n), false)
			checkUser(t, long(b, n), n >= 1 && n <= 60)
		}
		for _, b := range []string{" ", "\x1f", "\x7f", "\xff"} {
			checkName(t, long(b, n), false)
			checkUser(t, long(b, n), false)
		}
	}
	for _, n := range []int{1<<16 - 1, 1 << 16, 1<<16 + 1, 1<<16 + 60, 1 << 20} {
		checkName(t, long("a", n), false)
		checkUser(t, long("a", n), false)
	}
}

// P12.1: all texts of up to 4 of some pieces.
func TestAllShortTexts(t *testing.T) {
	names, users := 0, 0
	texts(4, []string{"a", "z", "9", ".", "-", "@", "A", "_", "/", "~", " ", "\n", "\x7f", "\u00e9"}, func(s string) {
		isName, isUser := nameOf.MatchString(s), userOf.MatchString(s)
		checkName(t, s, isName)
		checkUser(t, s, isUser)
		if isName {
			names++
		}
		if isUser {
			users++
		}
	})
	if names != 5+25+125+625 || users != 10+100+1000+10000 {
		t.Errorf("there were %d names and %d users", names, users)
	}
}

// P12.2: the chapter's example: a user may have a sign itself.
func TestExample(t *testing.T) {
	checkSplit(t, "me@x@ftp.a", "me@x", "ftp.a")
}

// P12.2: what is split, and into what, written by hand.
func TestSplit(t *testing.T) {
	for _, x := range []struct{ s, user, host string }{
		{"me@ftp.a", "me", "ftp.a"}, {"a@b", "a", "b"}, {"a@a", "a", "a"}, {"me@x@b-1", "me@x", "b-1"}, {"ME@b", "ME", "b"}, {"me@10.0.0.1", "me", "10.0.0.1"}, {"me@.", "me", "."}, {"me@-", "me", "-"}, {"me@0", "me", "0"}, {"~@b", "~", "b"}, {"!@b", "!", "b"}, {"me:x@b", "me:x", "b"}, {"ftp.a@me", "ftp.a", "me"},
		{"a@b@c", "a@b", "c"}, {"a@b@c@d", "a@b@c", "d"}, {"a@B@c", "a@B", "c"}, {"a@@b", "a@", "b"}, {"@a@b", "@a", "b"}, {"@@b", "@", "b"}, {"@@@b", "@@", "b"}, {"@a@@b", "@a@", "b"}, {"me@ftp.a@ftp.b", "me@ftp.a", "ftp.b"},
		{"", "", ""}, {"me", "", ""}, {"ftp.a", "", ""}, {"a", "", ""}, {" ", "", ""}, {"me ftp.a", "", ""}, {"me:ftp.a", "", ""}, {"me%ftp.a", "", ""}, {"me\uff20b", "", ""},
		{"@", "", ""}, {"@@", "", ""}, {"@@@", "", ""}, {"@b", "", ""}, {"@ftp.a", "", ""}, {"me@", "", ""}, {"a@b@", "", ""}, {"me@@", "", ""}, {"@me@", "", ""}, {"@b ", "", ""}, {" @", "", ""},
		{"m e@b", "", ""}, {" me@b", "", ""}, {"me @b", "", ""}, {" @b", "", ""}, {"me@x y@b", "", ""}, {"me @x@b", "", ""}, {"me\t@b", "", ""}, {"me\n@b", "", ""}, {"\x00@b", "", ""}, {"me\x7f@b", "", ""}, {"m\u00e9@b", "", ""}, {"\xff@b", "", ""},
		{"me@B", "", ""}, {"me@bB", "", ""}, {"me@ftp.A", "", ""}, {"me@b_c", "", ""}, {"me@b c", "", ""}, {"me@ b", "", ""}, {"me@b ", "", ""}, {"me@b:21", "", ""}, {"me@b/", "", ""}, {"me@b\r\n", "", ""}, {"me@b\n", "", ""}, {"me@b\x00", "", ""}, {"me@\x7f", "", ""}, {"me@\u00e9", "", ""}, {"me@b\xff", "", ""}, {"me@[::1]", "", ""}, {"a@b@C", "", ""}, {"a@b@c_", "", ""}, {"a@b@ ", "", ""},
		{"m e@B", "", ""}, {" @ ", "", ""}, {"\n@\n", "", ""},
	} {
		checkSplit(t, x.s, x.user, x.host)
	}
}

// P12.2: each user with each name is split, and none that is not one.
func TestSplitOfBoth(t *testing.T) {
	users := append(goodNames(), onlyUsers()...)
	for _, user := range users {
		for _, host := range goodNames() {
			checkSplit(t, user+"@"+host, user, host)
		}
	}
	for _, user := range neither() {
		for _, host := range goodNames() {
			checkSplit(t, user+"@"+host, "", "")
		}
	}
	for _, user := range append(users, neither()...) {
		for _, host := range append(onlyUsers(), neither()...) {
			if !strings.Contains(host, "@") {
				checkSplit(t, user+"@"+host, "", "")
			}
			checkSplitAsWanted(t, user+"@"+host)
		}
	}
}

// P12.2: a user and a name of each length, ones of 0, 60 and 61 bytes among them.
func TestSplitOfLengths(t *testing.T) {
	for n := 0; n <= 64; n++ {
		for m := 0; m <= 64; m++ {
			is := n >= 1 && n <= 60 && m >= 1 && m <= 60
			for _, u := range []string{"u", "U", "@", "~"} {
				user, host := long(u, n), long("h", m)
				if is {
					checkSplit(t, user+"@"+host, user, host)
				} else {
					checkSplit(t, user+"@"+host, "", "")
				}
			}
		}
	}
	for n := 1; n <= 130; n++ {
		checkSplit(t, long("a", n), "", "")
		checkSplit(t, long("a", n)+"@", "", "")
		checkSplit(t, "@"+long("a", n), "", "")
	}
}

// P12.2: texts of signs alone are not split, as nothing stands behind the last one.
func TestSplitOfSigns(t *testing.T) {
	for n := 0; n <= 1<<10; n++ {
		checkSplit(t, long("@", n), "", "")
		if n >= 2 && n <= 61 {
			checkSplit(t, long("@", n)+"b", long("@", n-1), "b")
		} else {
			checkSplit(t, long("@", n)+"b", "", "")
		}
	}
}

// P12.2: a sign at each place of a text, alone, and with a further one at each place: the last one cuts.
func TestSplitAtEachPlace(t *testing.T) {
	for _, n := range []int{1, 2, 3, 10, 60, 61, 62, 100, 120, 121, 122} {
		s := long("a", n)
		for at := range n {
			one := s[:at] + "@" + s[at+1:]
			if at >= 1 && at <= 60 && n-1-at >= 1 && n-1-at <= 60 {
				checkSplit(t, one, long("a", at), long("a", n-1-at))
			} else {
				checkSplit(t, one, "", "")
			}
			for more := range n {
				checkSplitAsWanted(t, one[:more]+"@"+one[more+1:])
			}
		}
	}
}

// P12.2: each of the 256 bytes at each place of a text that is split, in place of what stands there, and ahead of it.
func TestSplitOfEveryByte(t *testing.T) {
	for _, s := range []string{"a@b", "me@ftp.a", "me@x@b-1", "@@b", long("u", 60) + "@" + long("h", 60), long("u", 59) + "@" + long("h", 59), long("u", 60) + "@b", "a@" + long("h", 60)} {
		split := 0
		for at := range len(s) + 1 {
			everyByte(func(b string) {
				if checkSplitAsWanted(t, s[:at]+b+s[at:]) {
					split++
				}
				if at < len(s) && checkSplitAsWanted(t, s[:at]+b+s[at+1:]) {
					split++
				}
			})
		}
		if split < len(s) {
			t.Errorf("of %.70q only %d were split", s, split)
		}
	}
}

// P12.2: all texts of up to 6 of some pieces.
func TestSplitOfAllShortTexts(t *testing.T) {
	split := 0
	texts(6, []string{"@", "a", "-", "A", "_", " ", "\n", "\xff"}, func(s string) {
		if checkSplitAsWanted(t, s) {
			split++
		}
	})
	want := 0
	for n := 3; n <= 6; n++ { // of n bytes: users of 5 bytes, and behind a sign names of 2
		for host := 1; host <= n-2; host++ {
			want += power(5, n-1-host) * power(2, host)
		}
	}
	if split != want {
		t.Errorf("%d were split, want %d", split, want)
	}
}

func power(n, to int) int {
	p := 1
	for range to {
		p *= n
	}
	return p
}

// P12.2: of no tenants none is found, whether the list is nil or empty.
func TestFindOfNone(t *testing.T) {
	for _, l := range [][]api.Tenant{nil, {}, make([]api.Tenant, 0, 9), tenants("a", "b")[:0]} {
		for _, host := range slices.Concat(goodNames(), onlyUsers(), neither()) {
			checkFind(t, l, host, -1)
		}
	}
}

// P12.2: where a host is, written by hand: the first that has it is told, and only Host is held against it.
func TestFind(t *testing.T) {
	for _, x := range []struct {
		hosts []string
		host  string
		want  int
	}{
		{[]string{"a"}, "a", 0}, {[]string{"a"}, "b", -1}, {[]string{"a"}, "", -1}, {[]string{"a"}, "A", -1}, {[]string{"A"}, "a", -1}, {[]string{"A"}, "A", 0}, {[]string{"a"}, "aa", -1}, {[]string{"aa"}, "a", -1}, {[]string{"a"}, "a ", -1}, {[]string{"a"}, " a", -1}, {[]string{"a "}, "a", -1}, {[]string{"a"}, "a\x00", -1},
		{[]string{"a", "b", "c"}, "a", 0}, {[]string{"a", "b", "c"}, "b", 1}, {[]string{"a", "b", "c"}, "c", 2}, {[]string{"a", "b", "c"}, "d", -1}, {[]string{"a", "b", "c"}, "", -1}, {[]string{"a", "b", "c"}, "B", -1}, {[]string{"c", "b", "a"}, "a", 2},
		{[]string{"b", "a", "a"}, "a", 1}, {[]string{"a", "b", "a"}, "a", 0}, {[]string{"a", "a", "a"}, "a", 0}, {[]string{"b", "a", "b", "a"}, "a", 1}, {[]string{"b", "b", "b", "b"}, "a", -1},
		{[]string{""}, "", 0}, {[]string{""}, "a", -1}, {[]string{"a", "", "b", ""}, "", 1}, {[]string{"", "a"}, "a", 1},
		{[]string{"ftp.a", "ftp.b", "ftp.ab"}, "ftp.ab", 2}, {[]string{"ftp.a", "ftp.b", "ftp.ab"}, "ftp.", -1}, {[]string{"ftp.a", "ftp.b", "ftp.ab"}, "tp.a", -1}, {[]string{"ftp.a", "ftp.b", "ftp.ab"}, "ftp.aB", -1}, {[]string{"ftp.a", "ftp.b", "ftp.ab"}, "ftp.abc", -1}, {[]string{"ftp.a"}, "ftp-a", -1}, {[]string{"ftp.a"}, "ftpxa", -1}, {[]string{"*"}, "a", -1}, {[]string{"*"}, "*", 0}, {[]string{".a"}, "ftp.a", -1},
	} {
		checkFind(t, tenants(x.hosts...), x.host, x.want)
	}
	l := []api.Tenant{{Name: "b", Host: "a"}, {Name: "a", Host: "c"}, {Name: "a", Host: "a"}, {}}
	checkFind(t, l, "a", 0)
	checkFind(t, l, "b", -1)
	checkFind(t, l, "c", 1)
	checkFind(t, l, "", 3)
}

// P12.2: the only one that has the host may stand at each place, of lists of up to 40 tenants, and a second one behind it.
func TestFindAtEachPlace(t *testing.T) {
	for n := 1; n <= 40; n++ {
		hosts := slices.Repeat([]string{"b", "ftp.A", "ftp.", "ftp.aa", "", "ftp"}, 7)[:n]
		checkFind(t, tenants(hosts...), "ftp.a", -1)
		for at := range n {
			with := slices.Clone(hosts)
			with[at] = "ftp.a"
			checkFind(t, tenants(with...), "ftp.a", at)
			for further := at; further < n; further++ {
				with[further] = "ftp.a"
				checkFind(t, tenants(with...), "ftp.a", at)
			}
		}
	}
}

// P12.2: a host is found as it is written: each of the 256 bytes at each place of one makes another of it.
func TestFindOfEveryByte(t *testing.T) {
	const host = "ftp.a-1"
	l := tenants("b", host, "c")
	for at := range len(host) + 1 {
		everyByte(func(b string) {
			longer := host[:at] + b + host[at:]
			checkFind(t, l, longer, -1)
			checkFind(t, tenants("b", longer, "c"), host, -1)
			checkFind(t, tenants("b", host, longer), longer, 2)
			if at < len(host) {
				other := host[:at] + b + host[at+1:]
				checkFind(t, l, other, placeIf(other == host, 1))
				checkFind(t, tenants("b", other, host), host, placeIf(true, 2-whether(other == host)))
			}
		})
		if at < len(host) {
			checkFind(t, l, host[:at], -1)
			checkFind(t, l, host[at+1:], -1)
			checkFind(t, l, host[:at]+host[at+1:], -1)
			checkFind(t, l, host[:at]+strings.ToUpper(host[at:]), placeIf(strings.ToUpper(host[at:]) == host[at:], 1))
		}
	}
}

// placeIf is a place, or that there is none.
func placeIf(is bool, at int) int {
	if is {
		return at
	}
	return -1
}

func whether(is bool) int {
	if is {
		return 1
	}
	return 0
}

// P12.2: all lists of up to 4 tenants of some hosts, and each of these asked for.
func TestFindOfAllLists(t *testing.T) {
	of := []string{"a", "b", "A", "aa", ""}
	texts(4, []string{"a,", "b,", "A,", "aa,", ","}, func(s string) {
		l := tenants(strings.Split(s, ",")[:strings.Count(s, ",")]...)
		for _, host := range append(of, "c") {
			checkFind(t, l, host, slices.Index(hostsOf(l), host))
		}
	})
}

// P12.2: a host is found whether it may be a name or not, as only what is split is held against that.
func TestFindOfNoNames(t *testing.T) {
	for _, host := range append(onlyUsers(), neither()...) {
		checkFind(t, tenants("b", host, host), host, 1)
		checkFind(t, tenants("b", "c", "d"), host, -1)
	}
}

// P12.3: what is put together of a user and a name is split as it was: both of each length, of each byte that they may have.
func TestTogetherOfBytes(t *testing.T) {
	for _, u := range strings.Split(ofUsers, "") {
		for _, h := range strings.Split(ofNames, "") {
			for _, x := range [][2]string{{u, h}, {u + "@", h}, {"@" + u, h}, {u + "@" + h, h}, {long(u, 60), long(h, 60)}, {long(u, 59) + "@", "a" + h}, {"@" + long(u, 58) + "@", h + long("b", 59)}} {
				checkTogether(t, x[0], x[1])
			}
		}
	}
	for n := 1; n <= 60; n++ {
		for m := 1; m <= 60; m++ {
			checkTogether(t, long("u@", 30)[:n], long("h.", 30)[:m])
			checkTogether(t, long("@U", 30)[:n], long("-9", 30)[:m])
		}
	}
}

// checkTogether puts a user and a name together, and what comes of that once more.
func checkTogether(t *testing.T, user, host string) {
	t.Helper()
	if !User(user) || !Name(host) {
		t.Errorf("%q is no user, or %q no name", user, host)
	}
	checkSplit(t, user+"@"+host, user, host)
	u, h, is := Split(user + "@" + host)
	if u2, h2, is2 := Split(u + "@" + h); !is || !is2 || u2 != u || h2 != h {
		t.Errorf("%q and %q are split otherwise once more: %q, %q, %t, %t", user, host, u2, h2, is, is2)
	}
}

// P12.3: the same of users and names by chance, with more signs than chance has; and the tenant of the name is found (P12.2).
func TestTogetherByChance(t *testing.T) {
	chance := rand.New(rand.NewSource(12))
	for range 30000 {
		user, host := drawn(chance, ofUsers+long("@", 20)), drawn(chance, ofNames)
		checkTogether(t, user, host)
		checkFind(t, tenants(user+"@", host, host), host, 1)
	}
}

func drawn(chance *rand.Rand, of string) string {
	b := make([]byte, 1+chance.Intn(60))
	for i := range b {
		b[i] = of[chance.Intn(len(of))]
	}
	return string(b)
}

// P12.1, P12.2: texts by chance, of pieces of which many may be.
func TestByChance(t *testing.T) {
	chance := rand.New(rand.NewSource(21))
	pieces := []string{"a", "b", "ftp", ".", "-", "0", "@", "@", "me", "A", "_", " ", "\n", long("a", 29), long("h", 58), "\u00e9", "\x00", "\xff"}
	split := 0
	for range 100000 {
		var s strings.Builder
		for range chance.Intn(8) {
			s.WriteString(pieces[chance.Intn(chance.Intn(len(pieces))+1)])
		}
		checkName(t, s.String(), nameOf.MatchString(s.String()))
		checkUser(t, s.String(), userOf.MatchString(s.String()))
		if checkSplitAsWanted(t, s.String()) {
			split++
		}
	}
	if split < 1000 {
		t.Errorf("only %d were split", split)
	}
}

// R3: tenants stay as they were, with all that they have, also those behind the end of the list.
func TestTenantsStay(t *testing.T) {
	all := tenants("a", "b", "c", "d", "e")
	before := copied(all)
	for n := range len(all) + 1 {
		for _, host := range []string{"a", "b", "c", "d", "e", "f", ""} {
			Find(all[:n], host)
			if !reflect.DeepEqual(all, before) {
				t.Errorf("Find(%q, %q) made other tenants: %+v", hostsOf(before[:n]), host, all)
			}
		}
	}
	at := Find(all, "d")
	all[0].Host, all[3].Host = "d", "x"
	if at != 3 || Find(all, "d") != 0 || Find(all, "x") != 3 || Find(all, "a") != -1 {
		t.Errorf("what is found is not what the tenants are now")
	}
}

// R5: what is answered is the same each time, whatever was asked in between.
func TestAfterOthers(t *testing.T) {
	l := tenants("a", "b", "b")
	for _, s := range slices.Concat([]string{"", "@", "me", "m e@b", "x@y@z", "me@B"}, goodNames(), onlyUsers(), neither()) {
		Name(s)
		User(s)
		Split(s)
		Split(s + "@b")
		Find(l, s)
		checkName(t, "ftp.a", true)
		checkName(t, "ftp.A", false)
		checkUser(t, "me@x", true)
		checkUser(t, "m e", false)
		checkSplit(t, "me@x@ftp.a", "me@x", "ftp.a")
		checkSplit(t, "me@", "", "")
		checkFind(t, l, "b", 1)
		checkFind(t, l, "c", -1)
	}
}

// P1: every call ends soon, however long its texts and lists are.
func TestVeryLong(t *testing.T) {
	const n = 1 << 24
	for _, b := range []string{"a", "@", "A", " ", "\x00", "\xff"} {
		s := long(b, n)
		checkLong(t, s)
		checkLong(t, s+"@b")
		checkLong(t, "me@"+s)
		checkLong(t, "@"+s)
		checkLong(t, s+"@")
	}
	l := slices.Repeat(tenants("a", "b", "c"), 1<<18)
	if Find(l, "c") != 2 || Find(l, "d") != -1 || Find(l, "") != -1 {
		t.Errorf("of many tenants another one is found")
	}
	l = append(l, api.Tenant{Host: long("h", n)})
	if Find(l, long("h", n)) != len(l)-1 || Find(l, long("h", n-1)) != -1 || Find(l, long("h", n-1)+"i") != -1 {
		t.Errorf("a very long host is not found at its place, or one like it is")
	}
}

// checkLong holds a text that is too long for all against that. It is no pattern's, as these take long.
func checkLong(t *testing.T, s string) {
	t.Helper()
	if u, h, is := Split(s); Name(s) || User(s) || u != "" || h != "" || is {
		t.Errorf("a text of %d bytes, %.10q and so on, is a name or a user, or is split", len(s), s)
	}
}
