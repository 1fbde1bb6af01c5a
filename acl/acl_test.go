package acl

import (
	"math/rand"
	"regexp"
	"slices"
	"strings"
	"testing"

	"wharfinger/api"
)

// verbNames are the names of all verbs, written by hand from the chapter on these.
const verbNames = "ABOR ACCT ALLO APPE CDUP CWD DELE EPRT EPSV FEAT HELP LIST MDTM MKD MLSD MLST MODE NLST NOOP PASS PASV PORT PWD QUIT REST RETR RMD RNFR RNTO SIZE STAT STOR STRU SYST TYPE USER"

// mayPathOf tells which paths may be, but for how long they are.
var mayPathOf = regexp.MustCompile(`\A(?:/|(?:/(?:[ -\-0-~]|\.[ -\-0-~]|\.\.[ -.0-~])[ -.0-~]*)+)\z`)

// strangeBytes are some that no verb and no path has.
var strangeBytes = []string{"\x00", "\t", "\n", "\r", "\r\n", "\x1f", "\x7f", "\x80", "\xa0", "\xc3", "\xff", "\u00e9", "\u017f", "\u2003", "\uff0f"}

// noVerbs are no Verb of a rule: no names at all, ones of other forms, and ones of no verb.
func noVerbs() []string {
	return append([]string{
		"SITE", "XPWD", "XMKD", "AUTH", "PBSZ", "PROT", "OPTS", "LPRT", "LPSV", "REIN", "SMNT", "STOU", "MLS", "RET", "R", "RETRR", "ABCD", "ZZZZ", "AAA",
		" ", "  ", "*", "?", "-", ".", "/", "0", "ALL", "ANY", "NONE", "STOR RETR", "STOR,RETR", "STOR|RETR", "ST*", "STO?", "!STOR", "STOR/", "/STOR", "STOR /a", strings.Repeat("STOR", 2), strings.Repeat("A", 1<<16),
		"stor", "Stor", "STOr", "sTOR", "retr", "pwd", "PWd", "cwd", "user", "user ", verbNames,
	}, strangeBytes...)
}

// goodPaths may be the Path of a rule.
func goodPaths() []string {
	return []string{"/", "/a", "/b", "/ab", "/a/b", "/a/ab", "/a/b/c", "/...", "/..a", "/.a", "/a.", "/ ", "/a b", "/ a", "/a ", "/A", "/*", "/-", "/~", "/\\", "/STOR", longPath(199), longPath(200), deepPath(200)}
}

// badPaths may not be, each for one reason or more.
func badPaths() []string {
	all := []string{"", "a", "a/b", "a/", ".", "..", "*", " ", " /", " /a", "./a", "../a", "~", "//", "//a", "/a/", "/a//", "/a//b", "/.", "/..", "/./", "/../", "/a/.", "/a/..", "/a/../b", "/a/./b", "/./a", "/../a", longPath(201), longPath(202), deepPath(202), deepPath(200) + "/", longPath(1 << 16), "\\a", "STOR"}
	for _, b := range strangeBytes {
		all = append(all, b, "/"+b, b+"/", "/a"+b, "/"+b+"/a", "/a/"+b)
	}
	return all
}

// longPath is a path of one part, of n bytes in all.
func longPath(n int) string {
	return "/" + strings.Repeat("x", n-1)
}

// deepPath is a path of parts of one byte, of n bytes in all.
func deepPath(n int) string {
	return strings.Repeat("/x", n/2)
}

// names are those of verbs.
func names() []string {
	return strings.Fields(verbNames)
}

func everyByte(f func(b string)) {
	for c := range 256 {
		f(string([]byte{byte(c)}))
	}
}

// lists calls back with all lists of up to n rules of those. A list holds only as long as the call lasts.
func lists(n int, of []api.Rule, f func(l []api.Rule)) {
	more(nil, n, of, f)
}

func more(l []api.Rule, n int, of []api.Rule, f func(l []api.Rule)) {
	f(l)
	if n == 0 {
		return
	}
	for _, r := range of {
		more(append(slices.Clip(l), r), n-1, of, f)
	}
}

// product is each Verb with each Path, allowed and not.
func product(verbs, paths []string) []api.Rule {
	var all []api.Rule
	for _, v := range verbs {
		for _, p := range paths {
			all = append(all, api.Rule{Verb: v, Path: p}, api.Rule{Allow: true, Verb: v, Path: p})
		}
	}
	return all
}

// placeIf is a place, or that there is none.
func placeIf(is bool, at int) int {
	if is {
		return at
	}
	return -1
}

func wantPath(s string) bool {
	return len(s) <= 200 && mayPathOf.MatchString(s)
}

func wantVerb(s string) bool {
	return s == "" || slices.Contains(names(), s)
}

func wantMay(l []api.Rule) bool {
	for _, r := range l {
		if !wantVerb(r.Verb) || !wantPath(r.Path) {
			return false
		}
	}
	return len(l) <= 8
}

// wantUnder goes by bytes: with a slash behind both, the one begins by the other where its parts do.
func wantUnder(top, s string) bool {
	behind := func(s string) string { return strings.TrimSuffix(s, "/") + "/" }
	return wantPath(top) && wantPath(s) && strings.HasPrefix(behind(s), behind(top))
}

// wantWhich goes through the rules from the last one on, so that the first one that tells is what stays.
func wantWhich(l []api.Rule, verb, path string) int {
	which := -1
	for i := len(l) - 1; i >= 0; i-- {
		if (l[i].Verb == "" || l[i].Verb == verb) && wantUnder(l[i].Path, path) {
			which = i
		}
	}
	return which
}

func short(l []api.Rule) []api.Rule {
	l = slices.Clone(l[:min(len(l), 12)])
	for i, r := range l {
		l[i].Verb, l[i].Path = r.Verb[:min(len(r.Verb), 60)], r.Path[:min(len(r.Path), 60)]
	}
	return l
}

func checkMay(t *testing.T, l []api.Rule, want bool) {
	t.Helper()
	if got := May(l); got != want {
		t.Errorf("May(%+v) = %t, want %t (%d rules)", short(l), got, want, len(l))
	}
	if wantMay(l) != want {
		t.Errorf("the tests' own May(%+v) is not %t (%d rules)", short(l), want, len(l))
	}
}

// checkWhich holds Which against a place, and Allowed against Allow of the rule there.
func checkWhich(t *testing.T, l []api.Rule, verb, path string, want int) {
	t.Helper()
	before := slices.Clone(l)
	if got := Which(l, verb, path); got != want {
		t.Errorf("Which(%+v, %q, %.60q) = %d, want %d (%d rules)", short(l), verb, path, got, want, len(l))
	}
	allowed := want >= 0 && l[want].Allow
	if got := Allowed(l, verb, path); got != allowed {
		t.Errorf("Allowed(%+v, %q, %.60q) = %t, want %t (%d rules)", short(l), verb, path, got, allowed, len(l))
	}
	if wantWhich(l, verb, path) != want {
		t.Errorf("the tests' own Which(%+v, %q, %.60q) is not %d (%d rules)", short(l), verb, path, want, len(l))
	}
	if !slices.Equal(l, before) {
		t.Errorf("Which(%+v, %q, %.60q) made other rules of these: %+v", short(before), verb, path, short(l))
	}
}

// checkAsWanted holds Which and Allowed against what the tests have by other means. It tells which rule it is.
func checkAsWanted(t *testing.T, l []api.Rule, verb, path string) int {
	t.Helper()
	want := wantWhich(l, verb, path)
	checkWhich(t, l, verb, path, want)
	return want
}

// P11.1: no rules may be, whether the list is nil or empty.
func TestMayOfNone(t *testing.T) {
	checkMay(t, nil, true)
	checkMay(t, []api.Rule{}, true)
	checkMay(t, make([]api.Rule, 0, 9), true)
}

// P11.1: there are at most 8 rules, whatever these are.
func TestMayOfMany(t *testing.T) {
	for n := 0; n <= 40; n++ {
		for _, r := range []api.Rule{{Path: "/"}, {Allow: true, Path: "/"}, {Verb: "STOR", Path: "/a"}, {Allow: true, Verb: "PWD", Path: deepPath(200)}} {
			checkMay(t, slices.Repeat([]api.Rule{r}, n), n <= 8)
		}
		for _, r := range []api.Rule{{}, {Path: "/a/"}, {Verb: "stor", Path: "/"}} {
			checkMay(t, slices.Repeat([]api.Rule{r}, n), n == 0)
		}
	}
	for _, n := range []int{255, 256, 257, 264, 1 << 16, 1<<16 + 8, 1 << 20} {
		checkMay(t, slices.Repeat([]api.Rule{{Allow: true, Path: "/"}}, n), false)
	}
}

// P11.1: a rule's Verb is the name of a verb, or empty, whether it allows or not.
func TestMayOfVerbs(t *testing.T) {
	if len(names()) != 36 {
		t.Fatalf("there are %d names, want 36", len(names()))
	}
	for _, r := range product(append(names(), ""), goodPaths()) {
		checkMay(t, []api.Rule{r}, true)
	}
	for _, r := range product(noVerbs(), goodPaths()) {
		checkMay(t, []api.Rule{r}, false)
	}
}

// P11.1: it is the name just so: no small letter, no blank, and no byte more, less, or else.
func TestMayOfNamesJustSo(t *testing.T) {
	for _, name := range names() {
		all := []string{strings.ToLower(name), " " + name, name + " ", name + "\r\n", name + "\x00", name + name, name + "X", "X" + name, name[:2], name[1:], name[:len(name)-1]}
		for at := range name {
			all = append(all, name[:at]+strings.ToLower(name[at:at+1])+name[at+1:], name[:at]+" "+name[at:], name[:at]+name[at+1:])
		}
		for _, other := range all {
			checkMay(t, []api.Rule{{Verb: other, Path: "/"}}, false)
			checkMay(t, []api.Rule{{Allow: true, Verb: other, Path: "/a/b"}}, false)
		}
	}
}

// P11.1: the same of each of the 256 bytes at each place of a name, in place of what stands there, and ahead of it.
func TestMayOfEveryByteOfNames(t *testing.T) {
	for _, name := range append(names(), "") {
		for at := range len(name) + 1 {
			everyByte(func(b string) {
				longer := name[:at] + b + name[at:]
				checkMay(t, []api.Rule{{Verb: longer, Path: "/"}}, wantVerb(longer))
				if at < len(name) {
					other := name[:at] + b + name[at+1:]
					checkMay(t, []api.Rule{{Verb: other, Path: "/"}}, wantVerb(other))
				}
			})
		}
	}
}

// P11.1: a rule's Path may be, also where its Verb is empty.
func TestMayOfPaths(t *testing.T) {
	for _, verb := range []string{"", "STOR", "PWD", "ABOR", "USER"} {
		for _, r := range product([]string{verb}, goodPaths()) {
			checkMay(t, []api.Rule{r}, true)
		}
		for _, r := range product([]string{verb}, badPaths()) {
			checkMay(t, []api.Rule{r}, false)
		}
	}
	for n := 2; n <= 1<<10; n++ {
		checkMay(t, []api.Rule{{Path: longPath(n)}}, n <= 200)
		checkMay(t, []api.Rule{{Verb: "RETR", Path: longPath(n)}}, n <= 200)
	}
}

// P11.1: a rule that may not be at any place of a list is enough.
func TestMayOfEachPlace(t *testing.T) {
	for n := 1; n <= 8; n++ {
		for at := range n {
			in := func(r api.Rule) []api.Rule {
				l := slices.Repeat([]api.Rule{{Allow: true, Path: "/"}, {Verb: "STOR", Path: "/a"}}, 4)[:n]
				l[at] = r
				return l
			}
			for _, r := range product([]string{"", "RETR", "USER"}, goodPaths()) {
				checkMay(t, in(r), true)
			}
			for _, r := range product([]string{"", "RETR", "USER"}, badPaths()) {
				checkMay(t, in(r), false)
			}
			for _, r := range product(noVerbs(), []string{"/", "/a/b"}) {
				checkMay(t, in(r), false)
			}
			for _, r := range product([]string{"stor", "SITE"}, []string{"", "/a/"}) {
				checkMay(t, in(r), false)
			}
		}
	}
}

// P11.1: all lists of up to 3 rules, some of which may be, and some not.
func TestMayOfLists(t *testing.T) {
	of := product([]string{"", "STOR", "stor", "SITE"}, []string{"/", "/a", "", "/a/"})
	lists(3, of, func(l []api.Rule) {
		checkMay(t, l, wantMay(l))
	})
}

// P11.2: without rules none tells, and nothing is allowed, whatever is asked for (P11.3).
func TestNoRules(t *testing.T) {
	for _, l := range [][]api.Rule{nil, {}, make([]api.Rule, 0, 9)} {
		for _, verb := range slices.Concat(names(), noVerbs(), []string{""}) {
			for _, path := range append(goodPaths(), badPaths()...) {
				checkWhich(t, l, verb, path, -1)
			}
		}
	}
}

// P11.2: the chapter's example: below /pub RETR is allowed, and STOR is not.
func TestExample(t *testing.T) {
	l := []api.Rule{{Verb: "STOR", Path: "/pub"}, {Allow: true, Path: "/"}}
	checkMay(t, l, true)
	checkWhich(t, l, "STOR", "/pub/a", 0)
	checkWhich(t, l, "RETR", "/pub/a", 1)
	if Allowed(l, "STOR", "/pub/a") || Allowed(l, "STOR", "/pub") || !Allowed(l, "RETR", "/pub/a") || !Allowed(l, "STOR", "/a") || !Allowed(l, "STOR", "/publ") {
		t.Errorf("STOR below /pub is allowed, or something else is not")
	}
}

// P11.2: which rule of a list tells, written by hand.
func TestWhich(t *testing.T) {
	l := []api.Rule{{Verb: "STOR", Path: "/pub"}, {Allow: true, Verb: "RETR", Path: "/pub"}, {Path: "/pub/secret"}, {Allow: true, Verb: "STOR", Path: "/in/new"}, {Allow: true, Path: "/pub"}, {Allow: true, Verb: "LIST", Path: "/"}, {Path: "/in"}}
	checkMay(t, l, true)
	for _, x := range []struct {
		verb, path string
		want       int
	}{
		{"STOR", "/pub", 0}, {"STOR", "/pub/a", 0}, {"STOR", "/pub/secret", 0}, {"STOR", "/pub/secret/a/b", 0}, {"STOR", "/publ", -1}, {"STOR", "/pu", -1}, {"STOR", "/", -1}, {"STOR", "/a/pub", -1},
		{"RETR", "/pub", 1}, {"RETR", "/pub/a", 1}, {"RETR", "/pub/secret", 1}, {"RETR", "/", -1}, {"RETR", "/in", 6}, {"RETR", "/in/new", 6}, {"RETR", "/ina", -1},
		{"DELE", "/pub/secret", 2}, {"DELE", "/pub/secret/a", 2}, {"DELE", "/pub/secrets", 4}, {"DELE", "/pub", 4}, {"DELE", "/pub/a", 4}, {"DELE", "/in", 6}, {"DELE", "/", -1}, {"DELE", "/a", -1},
		{"STOR", "/in", 6}, {"STOR", "/in/new", 3}, {"STOR", "/in/new/a", 3}, {"STOR", "/in/newer", 6}, {"STOR", "/in/a/new", 6},
		{"LIST", "/", 5}, {"LIST", "/a", 5}, {"LIST", "/in", 5}, {"LIST", "/in/new", 5}, {"LIST", "/pub", 4}, {"LIST", "/pub/secret", 2}, {"LIST", "/a/b/c", 5},
		{"list", "/", -1}, {"list", "/in", 6}, {"stor", "/pub", 4}, {"Stor", "/pub/secret", 2}, {"", "/", -1}, {"", "/pub", 4}, {"", "/in", 6}, {"SITE", "/pub", 4}, {"SITE", "/", -1}, {"LIST ", "/", -1}, {" LIST", "/", -1}, {"LIS", "/", -1}, {"LISTS", "/", -1},
		{"LIST", "", -1}, {"LIST", "a", -1}, {"LIST", "/a/", -1}, {"LIST", "//", -1}, {"LIST", "/.", -1}, {"LIST", "/a/..", -1}, {"STOR", "pub", -1}, {"STOR", "/pub/", -1}, {"STOR", "/pub/../a", -1}, {"DELE", "/pub/./a", -1}, {"DELE", "/PUB", -1}, {"STOR", "/in/new\n", -1}, {"STOR", "/pub/" + strings.Repeat("x", 195), 0}, {"STOR", "/pub/" + strings.Repeat("x", 196), -1},
	} {
		checkWhich(t, l, x.verb, x.path, x.want)
	}
}

// P11.2: of one rule: the path itself, ones below it, and none above, beside, or that begins by its bytes alone.
func TestWhichOfOnePath(t *testing.T) {
	for _, x := range []struct {
		top, path string
		want      int
	}{
		{"/", "/", 0}, {"/", "/a", 0}, {"/", "/a/b", 0}, {"/", deepPath(200), 0}, {"/", deepPath(202), -1}, {"/", longPath(200), 0}, {"/", longPath(201), -1},
		{"/a", "/a", 0}, {"/a", "/a/b", 0}, {"/a", "/a/b/c", 0}, {"/a", "/a/a", 0}, {"/a", "/", -1}, {"/a", "/ab", -1}, {"/a", "/ab/a", -1}, {"/a", "/a b", -1}, {"/a", "/a ", -1}, {"/a", "/A", -1}, {"/a", "/b", -1}, {"/a", "/b/a", -1}, {"/a", "/aa", -1}, {"/a", "/a.", -1}, {"/a", "/.a", -1},
		{"/ab", "/a", -1}, {"/ab", "/ab", 0}, {"/ab", "/ab/a", 0}, {"/ab", "/abc", -1}, {"/ab", "/a/b", -1},
		{"/a/b", "/a/b", 0}, {"/a/b", "/a/b/c", 0}, {"/a/b", "/a", -1}, {"/a/b", "/", -1}, {"/a/b", "/a/bc", -1}, {"/a/b", "/a/c", -1}, {"/a/b", "/ab", -1}, {"/a/b", "/b", -1}, {"/a/b", "/b/a", -1}, {"/a/b", "/x/a/b", -1}, {"/a/b", "/c/b", -1},
		{longPath(200), longPath(200), 0}, {longPath(199), longPath(200), -1}, {longPath(198), longPath(198) + "/a", 0}, {longPath(199), longPath(199) + "/a", -1}, {deepPath(198), deepPath(200), 0}, {deepPath(200), deepPath(198), -1}, {longPath(201), longPath(201), -1}, {deepPath(202), deepPath(202), -1},
		{"", "", -1}, {"", "/", -1}, {"", "/a", -1}, {"/a/", "/a/", -1}, {"/a/", "/a/b", -1}, {"/a/", "/a", -1}, {"a", "a", -1}, {"a", "/a", -1}, {".", "/", -1}, {"/.", "/", -1}, {"/..", "/", -1}, {"//", "/", -1}, {"//", "//", -1}, {"/*", "/a", -1}, {"/*", "/*", 0},
	} {
		for _, allow := range []bool{false, true} {
			for _, verb := range []string{"", "STOR", "PWD"} {
				checkWhich(t, []api.Rule{{Allow: allow, Verb: verb, Path: x.top}}, "STOR", x.path, placeIf(verb != "PWD", x.want))
			}
		}
	}
}

// P11.2: of one rule: each path with each one, whether they may be or not.
func TestWhichOfPaths(t *testing.T) {
	all := append(goodPaths(), badPaths()...)
	told := 0
	for _, top := range all {
		for _, path := range all {
			for _, allow := range []bool{false, true} {
				if checkAsWanted(t, []api.Rule{{Allow: allow, Path: top}}, "STOR", path) == 0 {
					told++
				}
			}
			if !wantPath(top) || !wantPath(path) {
				checkWhich(t, []api.Rule{{Allow: true, Path: top}}, "STOR", path, -1)
			}
		}
	}
	if told < 2*len(goodPaths()) {
		t.Errorf("only %d rules told of a path", told)
	}
}

// P11.2: of one rule: each verb with each one: only its own, and all where the rule names none.
func TestWhichOfVerbs(t *testing.T) {
	for _, ruled := range append(names(), "") {
		for _, asked := range append(names(), "") {
			for _, allow := range []bool{false, true} {
				want := placeIf(ruled == asked || ruled == "", 0)
				checkWhich(t, []api.Rule{{Allow: allow, Verb: ruled, Path: "/a"}}, asked, "/a/b", want)
			}
		}
	}
}

// P11.2: a verb is held against a rule's as it is written, also where it is that of no verb.
func TestWhichOfVerbsAsWritten(t *testing.T) {
	for _, asked := range noVerbs() {
		checkWhich(t, []api.Rule{{Allow: true, Path: "/"}}, asked, "/a", 0)
		checkWhich(t, []api.Rule{{Allow: true, Verb: asked, Path: "/"}}, asked, "/a", 0)
		for _, name := range append(names(), asked+" ", asked+"\x00", " "+asked) {
			checkWhich(t, []api.Rule{{Allow: true, Verb: name, Path: "/"}}, asked, "/a", -1)
			checkWhich(t, []api.Rule{{Allow: true, Verb: asked, Path: "/"}}, name, "/a", -1)
		}
	}
	everyByte(func(b string) {
		for _, asked := range []string{b, "STOR" + b, b + "STOR", "ST" + b + "OR", "STO" + b, b + "TOR"} {
			checkWhich(t, []api.Rule{{Allow: true, Verb: "STOR", Path: "/"}}, asked, "/", placeIf(asked == "STOR", 0))
			checkWhich(t, []api.Rule{{Allow: true, Path: "/"}}, asked, "/", 0)
		}
	})
}

// P11.2: the only one that tells may stand at each place, of lists of up to 8 rules and of more.
func TestWhichAtEachPlace(t *testing.T) {
	others := []api.Rule{{Allow: true, Verb: "RETR", Path: "/"}, {Verb: "STOR", Path: "/b"}, {Allow: true, Path: "/a/b/c"}, {Verb: "stor", Path: "/"}, {Allow: true, Path: "/a/"}, {Path: "/ab"}, {Allow: true, Verb: "STOR", Path: ""}}
	for n := 1; n <= 20; n++ {
		none := slices.Repeat(others, 3)[:n]
		checkWhich(t, none, "STOR", "/a/b", -1)
		for at := range n {
			for _, r := range product([]string{"", "STOR"}, []string{"/", "/a", "/a/b"}) {
				l := slices.Clone(none)
				l[at] = r
				checkWhich(t, l, "STOR", "/a/b", at)
				checkWhich(t, l, "STOR", "/c/d", placeIf(r.Path == "/", at))
			}
		}
	}
}

// P11.2: of several that tell it is the first one, whatever that has of another one.
func TestWhichOfSeveral(t *testing.T) {
	tell := product([]string{"", "STOR"}, []string{"/", "/a", "/a/b"})
	for _, first := range tell {
		for _, second := range tell {
			checkWhich(t, []api.Rule{first, second}, "STOR", "/a/b", 0)
			for ahead := 0; ahead <= 6; ahead++ {
				l := append(slices.Repeat([]api.Rule{{Allow: !first.Allow, Verb: "PWD", Path: "/"}}, ahead), first, second)
				checkWhich(t, l, "STOR", "/a/b", ahead)
			}
			apart := []api.Rule{{Verb: "STOR", Path: "/b"}, first, {Allow: !first.Allow, Path: "/c"}, second}
			checkWhich(t, apart, "STOR", "/a/b", 1)
		}
	}
}

// P11.2: a verb that fits in one rule, and a path in another one, make none of them tell.
func TestWhichOfHalves(t *testing.T) {
	for _, l := range [][]api.Rule{
		{{Allow: true, Verb: "STOR", Path: "/b"}, {Allow: true, Verb: "RETR", Path: "/a"}},
		{{Allow: true, Verb: "RETR", Path: "/a"}, {Allow: true, Verb: "STOR", Path: "/b"}},
		{{Allow: true, Path: "/b"}, {Allow: true, Verb: "RETR", Path: "/"}, {Allow: true, Verb: "STOR", Path: "/a/b"}},
	} {
		checkWhich(t, l, "STOR", "/a", -1)
		checkWhich(t, append(l, api.Rule{Allow: true, Verb: "STOR", Path: "/a"}), "STOR", "/a", len(l))
	}
}

// P11.2: a list that may not be is asked all the same: what tells of it does, and the others don't.
func TestWhichOfListsThatMayNot(t *testing.T) {
	l := []api.Rule{{Allow: true, Path: ""}, {Allow: true, Verb: "SITE", Path: "/"}, {Allow: true, Verb: "stor", Path: "/"}, {Verb: "STOR", Path: "/a/"}, {Allow: true, Verb: "STOR", Path: "/a"}}
	checkMay(t, l, false)
	checkWhich(t, l, "STOR", "/a", 4)
	checkWhich(t, l, "SITE", "/a", 1)
	checkWhich(t, l, "stor", "/a", 2)
	checkWhich(t, l, "STOR", "/", -1)
	checkWhich(t, make([]api.Rule, 9), "STOR", "/", -1)
	for _, n := range []int{9, 255, 256, 257, 1 << 16} {
		many := append(slices.Repeat([]api.Rule{{Verb: "RETR", Path: "/"}}, n), api.Rule{Allow: true, Path: "/"})
		checkMay(t, many, false)
		checkWhich(t, many, "STOR", "/a", n)
		checkWhich(t, many, "RETR", "/a", 0)
	}
}

// P11.2, P11.3: all lists of up to 4 rules: what tells, whether it is allowed, and that no rule behind that matters, nor one ahead that doesn't tell.
func TestWhichOfLists(t *testing.T) {
	of := product([]string{"", "STOR"}, []string{"/", "/a"})
	of = append(of, api.Rule{Allow: true, Verb: "RETR", Path: "/"}, api.Rule{Verb: "STOR", Path: "/a/b"}, api.Rule{Allow: true, Path: "/ab"}, api.Rule{Allow: true, Path: "/a/"})
	lists(4, of, func(l []api.Rule) {
		for _, verb := range []string{"STOR", "RETR", ""} {
			for _, path := range []string{"/", "/a", "/a/b", "/ab", ""} {
				which := checkAsWanted(t, l, verb, path)
				if which >= 0 && (Which(l[:which], verb, path) != -1 || Which(l[:which+1], verb, path) != which || Which(l[which:], verb, path) != 0) {
					t.Errorf("of %+v not just rule %d tells of %s %s", l, which, verb, path)
				}
			}
		}
	})
}

// P11.3: whatever stands behind a rule that tells, that one tells, and it is allowed or not as that says.
func TestWhatStandsBehind(t *testing.T) {
	for _, allow := range []bool{false, true} {
		for _, ahead := range [][]api.Rule{nil, {{Allow: !allow, Path: "/b"}}, {{Allow: !allow, Verb: "RETR", Path: "/"}, {Allow: !allow, Path: "/ab"}}} {
			front := append(slices.Clone(ahead), api.Rule{Allow: allow, Verb: "STOR", Path: "/a"})
			lists(3, product([]string{"", "STOR", "no"}, []string{"/", "/a", "no"}), func(behind []api.Rule) {
				l := append(slices.Clone(front), behind...)
				checkWhich(t, l, "STOR", "/a/b", len(ahead))
				if Allowed(l, "STOR", "/a/b") != allow {
					t.Errorf("Allowed(%+v, STOR, /a/b) is not %t", l, allow)
				}
			})
		}
	}
}

// P11.3: what no rule tells of is not allowed, even where all that there are allow.
func TestNothingWithoutRule(t *testing.T) {
	l := []api.Rule{{Allow: true, Verb: "STOR", Path: "/a"}, {Allow: true, Path: "/b"}, {Allow: true, Verb: "RETR", Path: "/"}}
	for _, verb := range append(names(), "", "stor") {
		for _, path := range append(goodPaths(), badPaths()...) {
			is := Allowed(l, verb, path)
			if is != (wantUnder("/a", path) && verb == "STOR" || wantUnder("/b", path) || wantPath(path) && verb == "RETR") {
				t.Errorf("Allowed(%+v, %q, %.60q) = %t", l, verb, path, is)
			}
		}
	}
}

// P11.1, P11.2: rules by chance, from a seed.
func TestChance(t *testing.T) {
	r := rand.New(rand.NewSource(11))
	one := func(of []string) string { return of[r.Intn(len(of))] }
	verbs := append([]string{"", "", "STOR", "STOR", "RETR", "RETR"}, append(names(), noVerbs()...)...)
	paths := append([]string{"/", "/a", "/a/b", "/a/b/c", "/b", "/ab", "/a/ab"}, append(goodPaths(), badPaths()...)...)
	counts := map[bool]int{}
	for range 40000 {
		l := make([]api.Rule, r.Intn(11))
		for i := range l {
			l[i] = api.Rule{Allow: r.Intn(2) == 0, Verb: one(verbs[:6+r.Intn(2)*r.Intn(len(verbs)-5)]), Path: one(paths[:7+r.Intn(2)*r.Intn(len(paths)-6)])}
		}
		checkMay(t, l, wantMay(l))
		counts[checkAsWanted(t, l, one(verbs), one(paths)) >= 0]++
	}
	if counts[true] < 1000 || counts[false] < 1000 {
		t.Errorf("rules told %d times, and %d times not", counts[true], counts[false])
	}
}

// R3: the rules that are handed in stay as they were, and what has been answered does not change with them.
func TestRulesStay(t *testing.T) {
	l := []api.Rule{{Verb: "STOR", Path: "/a"}, {Allow: true, Path: "/"}, {Path: ""}, {Allow: true, Verb: "no", Path: "/no"}}
	room := append(slices.Clone(l), api.Rule{Allow: true, Verb: "X", Path: "x"})
	before := slices.Clone(room)
	part := room[:len(l)]
	May(part)
	which, allowed := Which(part, "STOR", "/a"), Allowed(part, "RETR", "/a")
	if !slices.Equal(room, before) {
		t.Errorf("of %+v came %+v", before, room)
	}
	clear(room)
	if which != 0 || !allowed || Which(part, "STOR", "/a") != -1 || Allowed(part, "RETR", "/a") || May(part) {
		t.Error("what is answered does not go by the rules as they are")
	}
}

// R5: nothing hangs on what was asked before.
func TestAfterOthers(t *testing.T) {
	l := []api.Rule{{Verb: "STOR", Path: "/a"}, {Allow: true, Path: "/"}}
	other := []api.Rule{{Allow: true, Verb: "STOR", Path: "/a"}, {Path: ""}}
	for range 3 {
		for _, verb := range []string{"STOR", "RETR", "", "stor", "SITE"} {
			for _, path := range []string{"/a", "/", "/b", "", "/a/"} {
				May(other)
				Which(other, verb, path)
				Allowed(other, verb, path)
				checkMay(t, l, true)
				checkWhich(t, l, "STOR", "/a/b", 0)
				checkWhich(t, l, "RETR", "/a/b", 1)
			}
		}
	}
}

// P1: very long texts and lists are answered, too.
func TestVeryLong(t *testing.T) {
	const n = 1 << 22
	long := []string{strings.Repeat("/a", n), "/" + strings.Repeat("a", n), strings.Repeat("/", n), strings.Repeat("STOR", n), strings.Repeat("\xff", n)}
	for _, s := range long {
		checkMay(t, []api.Rule{{Path: s}}, false)
		checkMay(t, []api.Rule{{Verb: s, Path: "/"}}, false)
		checkWhich(t, []api.Rule{{Allow: true, Path: s}}, "STOR", s, -1)
		checkWhich(t, []api.Rule{{Allow: true, Path: "/"}}, "STOR", s, -1)
		checkWhich(t, []api.Rule{{Allow: true, Path: "/"}}, s, "/a", 0)
		checkWhich(t, []api.Rule{{Allow: true, Verb: s, Path: "/"}}, s, "/a", 0)
		checkWhich(t, []api.Rule{{Allow: true, Verb: s, Path: "/"}}, s+"x", "/a", -1)
	}
	l := slices.Repeat([]api.Rule{{Allow: true, Verb: "STOR", Path: "/a"}}, 1<<20)
	if May(l) || Which(l, "RETR", "/a") != -1 || Which(l, "STOR", "/b") != -1 || Allowed(l, "STOR", "/") || !Allowed(l, "STOR", "/a") {
		t.Error("of very many rules another answer came")
	}
}
