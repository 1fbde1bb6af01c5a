package path

import (
	"math/rand"
	stdpath "path"
	"regexp"
	"slices"
	"strings"
	"testing"

	"wharfinger/api"
)

// mayOf tells which paths may be, but for how long they are, so that this is not told as May tells it: each part begins by a byte that is no dot, or by a dot and one that is none, or by two dots and any byte.
var mayOf = regexp.MustCompile(`\A(?:/|(?:/(?:[ -\-0-~]|\.[ -\-0-~]|\.\.[ -.0-~])[ -.0-~]*)+)\z`)

// cleanOf tells what may be sent.
var cleanOf = regexp.MustCompile(`\A[ -~]*\z`)

// inParts are all bytes that a part may have, written out: the Clean ones but for the slash.
const inParts = " !\"#$%&'()*+,-.0123456789:;<=>?@ABCDEFGHIJKLMNOPQRSTUVWXYZ[\\]^_`abcdefghijklmnopqrstuvwxyz{|}~"

// strangeBytes are some that are not Clean: those beside the bounds, those that end lines, and those above 127.
var strangeBytes = []string{
	"\x00", "\x01", "\t", "\n", "\r", "\r\n", "\x1b", "\x1e", "\x1f", "\x7f", "\x80", "\x81", "\xa0", "\xc3", "\xe9", "\xfe", "\xff", "\u00e9", "\u00a0", "\u2003", "\u2024", "\u6211", "\uff0e", "\uff0f", "\ufeff",
}

// goodParts may be parts: some that begin by dots, have blanks, or look like something else.
var goodParts = []string{
	"a", "b", "ab", "x y", " ", "  ", " a", "a ", "...", "....", ".a", "..a", "a.", "a..", ".a.", "a.b", "a..b", ". ", " .", ".. ", " ..", " . ", ". .", ".~", "..~", "-", "~", "~root", "\\", "\\..", "*", "?", "%2e%2e", "%2f", "c:", "retr", "0", inParts,
}

// noParts are texts that lead elsewhere, and may be parts of no path.
var noParts = []string{"", ".", ".."}

// goodPaths may be: of no part, of one, of several, and as long as may be.
func goodPaths() []string {
	all := []string{
		"/", "/a", "/b", "/ab", "/a/b", "/a/b/c", "/a/c", "/b/a", "/aa", "/a/a", "/a/a/a", "/a/ab", "/ab/a", "/...", "/.../...", "/..a/.b", "/a b/c.d", "/ ", "/ / ", "/ a", "/a ", "/A", "/A/b",
		pathOf(199), pathOf(200), manyOf(198), manyOf(200), manyOf(199), pathOf(198), "/a/" + strings.Repeat("y", 197),
	}
	for _, p := range goodParts {
		all = append(all, "/"+p, "/a/"+p, "/"+p+"/b")
	}
	return all
}

// badPaths may not be, each for one reason or more.
func badPaths() []string {
	all := []string{
		"", "a", "a/b", "a/", ".", "..", "...", " ", " /", " /a", "./a", "../a", "~", "//", "///", "//a", "/a//", "/a/", "/a/b/", "/a//b", "/.", "/..", "/./", "/../", "/./.", "/../..", "/a/..", "/a/.", "/a/../b", "/a/./b",
		pathOf(201), pathOf(202), manyOf(202), manyOf(201), pathOf(1 << 16), manyOf(1 << 16), strings.Repeat("/", 200), strings.Repeat("a", 200), strings.Repeat("/.", 100), "a" + manyOf(198), manyOf(198) + "/", "\\a", "c:/a",
	}
	for _, b := range strangeBytes {
		all = append(all, b, "/"+b, b+"/a", "/a"+b, "/"+b+"/b", "/a/"+b)
	}
	return all
}

// pathOf is a path of one part, of n bytes in all.
func pathOf(n int) string {
	return "/" + strings.Repeat("x", n-1)
}

// manyOf is a path of parts of one byte, but the last one, which has two if n is odd, of n bytes in all.
func manyOf(n int) string {
	s := strings.Repeat("/x", n/2)
	if n%2 == 1 {
		s += "y"
	}
	return s
}

func short(s string) string {
	if len(s) > 60 {
		return s[:60] + ".."
	}
	return s
}

// everyByte calls back with each of the 256 bytes, as a text.
func everyByte(f func(s string)) {
	for c := range 256 {
		f(string([]byte{byte(c)}))
	}
}

// inEachPlace calls back with paths of 1 to 4 parts, of which one, at each place, is the given one.
func inEachPlace(part string, f func(s string)) {
	for n := 1; n <= 4; n++ {
		for at := range n {
			parts := slices.Clone([]string{"a", "b b", "c.c", "..."}[:n])
			parts[at] = part
			f("/" + strings.Join(parts, "/"))
		}
	}
}

func wantMay(s string) bool {
	return len(s) <= 200 && mayOf.MatchString(s)
}

// wantJoin asks the library where an argument leads to, which knows such paths without bounds.
func wantJoin(cwd, arg string) (string, api.Errno) {
	switch {
	case !wantMay(cwd):
		return "", api.ErrArg
	case !cleanOf.MatchString(arg):
		return "", api.ErrForm
	}
	s := stdpath.Clean(cwd + "/" + arg)
	if strings.HasPrefix(arg, "/") {
		s = stdpath.Clean(arg)
	}
	if len(s) > 200 {
		return "", api.ErrOver
	}
	return s, api.OK
}

// wantUnder goes by bytes: with a slash behind both, the one begins by the other where its parts do.
func wantUnder(top, s string) bool {
	behind := func(s string) string { return strings.TrimSuffix(s, "/") + "/" }
	return wantMay(top) && wantMay(s) && strings.HasPrefix(behind(s), behind(top))
}

func checkMay(t *testing.T, s string, want bool) {
	t.Helper()
	if got := May(s); got != want {
		t.Errorf("May(%q) = %t, want %t", short(s), got, want)
	}
	if wantMay(s) != want {
		t.Errorf("the tests' own May(%q) is not %t", short(s), want)
	}
}

func checkJoin(t *testing.T, cwd, arg, want string, wantNo api.Errno) {
	t.Helper()
	if s, no := Join(cwd, arg); s != want || no != wantNo {
		t.Errorf("Join(%q, %q) = %q, %d, want %q, %d", short(cwd), short(arg), short(s), no, short(want), wantNo)
	}
}

// checkNowhere: beside such an error the path is nothing.
func checkNowhere(t *testing.T, cwd, arg string, no api.Errno) {
	t.Helper()
	checkJoin(t, cwd, arg, "", no)
}

// checkAsWanted holds Join against the library, and where it led to against P10.3. It tells which error it has.
func checkAsWanted(t *testing.T, cwd, arg string) api.Errno {
	t.Helper()
	want, no := wantJoin(cwd, arg)
	checkJoin(t, cwd, arg, want, no)
	if no == api.OK {
		checkIsPath(t, cwd, arg)
	}
	return no
}

// checkIsPath: what is told may be, and leads to itself, from where one was, from there, and from the top (P10.3).
func checkIsPath(t *testing.T, cwd, arg string) {
	t.Helper()
	s, _ := Join(cwd, arg)
	checkMay(t, s, true)
	for _, from := range []string{cwd, s, "/"} {
		checkJoin(t, from, s, s, api.OK)
	}
}

func checkUnder(t *testing.T, top, s string, want bool) {
	t.Helper()
	if got := Under(top, s); got != want {
		t.Errorf("Under(%q, %q) = %t, want %t", short(top), short(s), got, want)
	}
	if wantUnder(top, s) != want {
		t.Errorf("the tests' own Under(%q, %q) is not %t", short(top), short(s), want)
	}
}

// P10.1: paths that may be, and ones that may not, written by hand.
func TestMay(t *testing.T) {
	for _, s := range goodPaths() {
		checkMay(t, s, true)
	}
	for _, s := range badPaths() {
		checkMay(t, s, false)
	}
}

// P10.1: no part is empty, or leads elsewhere, at whichever place.
func TestMayOfNoParts(t *testing.T) {
	for _, p := range noParts {
		inEachPlace(p, func(s string) {
			// With nothing as its only part it is the path of none.
			checkMay(t, s, s == "/")
			checkMay(t, s+"/", false)
			checkMay(t, "/"+s, false)
		})
	}
}

// P10.1: parts that begin by dots and go on, and ones with blanks, may be, at whichever place.
func TestMayOfParts(t *testing.T) {
	for _, p := range goodParts {
		inEachPlace(p, func(s string) {
			checkMay(t, s, true)
			checkMay(t, s+"/", false)
			checkMay(t, "/"+s, false)
			checkMay(t, s[1:], false)
			checkMay(t, " "+s, false)
			checkMay(t, s+"/..", false)
			checkMay(t, s+"/.", false)
			checkMay(t, s+"//a", false)
		})
	}
}

// P10.1: a path has at most 200 bytes: of one part, of many, and of whichever byte.
func TestMayOfLength(t *testing.T) {
	for n := 2; n <= 1<<10; n++ {
		checkMay(t, pathOf(n), n <= 200)
		checkMay(t, manyOf(n), n <= 200)
		checkMay(t, "/"+strings.Repeat(" ", n-1), n <= 200)
		checkMay(t, "/"+strings.Repeat(".", n-1), n > 3 && n <= 200)
	}
	for _, n := range []int{199, 200, 201} {
		for _, p := range goodParts {
			s := "/" + p + "/"
			checkMay(t, s+strings.Repeat("z", n-len(s)), n <= 200)
			checkMay(t, "/"+strings.Repeat("z", n-len(s))+s[:len(s)-1], n <= 200)
		}
	}
}

// P10.1: each of the 256 bytes, at each place of a path, instead of what stands there, and ahead of that.
func TestMayOfEveryByte(t *testing.T) {
	for _, s := range []string{"/", "/a", "/ab", "/a/b", "/a b/c.d/..e", "/./a", "/...", manyOf(200), pathOf(199)} {
		for at := range len(s) + 1 {
			everyByte(func(b string) {
				more := s[:at] + b + s[at:]
				checkMay(t, more, wantMay(more))
				if at < len(s) {
					other := s[:at] + b + s[at+1:]
					checkMay(t, other, wantMay(other))
				}
			})
		}
	}
}

// P10.1: the same, by hand: a byte that is not Clean may stand nowhere, and each Clean one within a part, but a slash at neither end of that, and not beside another one.
func TestMayOfBytesWithin(t *testing.T) {
	count := 0
	everyByte(func(b string) {
		is := strings.Contains(inParts, b)
		if is {
			count++
		}
		for _, s := range []string{"/a" + b + "a", "/a/a" + b + "a", "/a" + b + "a/a"} {
			checkMay(t, s, is || b == "/")
		}
		for _, s := range []string{"/" + b, "/a/" + b, "/" + b + "/a", "/a/" + b + "/a"} {
			checkMay(t, s, is && b != ".")
		}
		for _, s := range []string{"/" + b + b, "/a/" + b + b, "/" + b + b + "/a"} {
			checkMay(t, s, is && b != ".")
		}
		for _, s := range []string{"/" + b + b + b, "/." + b + ".", "/.." + b, "/a/.." + b} {
			checkMay(t, s, is)
		}
		for _, s := range []string{b + "/", b + "/a", b + "a/", b + "//"} {
			checkMay(t, s, false)
		}
		checkMay(t, b, b == "/")
		checkMay(t, b+"a", b == "/")
	})
	if count != 94 || len(inParts) != 94 {
		t.Errorf("there are %d and %d bytes, want 94", count, len(inParts))
	}
}

// P10.1: where arguments lead to, written by hand, the chapter's examples among them.
func TestJoin(t *testing.T) {
	for _, x := range []struct{ cwd, arg, want string }{
		{"/a/b", "../c", "/a/c"}, {"/a", "../../..", "/"}, {"/a", "/x//y/./z/..", "/x/y"},
		{"/", "", "/"}, {"/a", "", "/a"}, {"/a/b", "", "/a/b"}, {"/", ".", "/"}, {"/a/b", ".", "/a/b"}, {"/", "..", "/"}, {"/a", "..", "/"}, {"/a/b", "..", "/a"}, {"/a/b/c", "..", "/a/b"},
		{"/", "/", "/"}, {"/a/b", "/", "/"}, {"/a/b", "//", "/"}, {"/a/b", "///", "/"}, {"/a/b", "/.", "/"}, {"/a/b", "/..", "/"}, {"/a/b", "/./", "/"}, {"/a/b", "/../", "/"}, {"/a/b", "/../..", "/"}, {"/a/b", "//..//", "/"},
		{"/", "a", "/a"}, {"/a", "b", "/a/b"}, {"/a", "b/c", "/a/b/c"}, {"/a", "/b", "/b"}, {"/a", "/b/c", "/b/c"}, {"/a", "//b", "/b"}, {"/a", "/a", "/a"}, {"/a", "a", "/a/a"},
		{"/a", "b/", "/a/b"}, {"/a", "b//", "/a/b"}, {"/a", "/b/", "/b"}, {"/a", "b//c", "/a/b/c"}, {"/a", "b///c//", "/a/b/c"}, {"/", "b/c/d/", "/b/c/d"},
		{"/a", "./b", "/a/b"}, {"/a", "b/.", "/a/b"}, {"/a", "b/./c", "/a/b/c"}, {"/a", "././.", "/a"}, {"/a", "./", "/a"}, {"/a", ".//.", "/a"}, {"/a", "/./b", "/b"}, {"/a", "/b/.", "/b"},
		{"/a", "../b", "/b"}, {"/a", "b/..", "/a"}, {"/a", "b/../c", "/a/c"}, {"/a", "b/../..", "/"}, {"/a", "b/../../c", "/c"}, {"/a", "/../b", "/b"}, {"/a", "/b/..", "/"}, {"/a", "/b/../c", "/c"}, {"/a/b/c", "../../d", "/a/d"}, {"/a/b/c", "../d/../e", "/a/b/e"}, {"/a/b", "../", "/a"}, {"/a/b", "..//..", "/"}, {"/a/b", "../.", "/a"},
		{"/a", "../../../b", "/b"}, {"/a", "../../../b/c", "/b/c"}, {"/", "../b", "/b"}, {"/", "../../b/..", "/"}, {"/a/b", "../../../..", "/"}, {"/a/b", "../../../../c", "/c"}, {"/a", "b/../../../../c/d/../e", "/c/e"},
		{"/a", "...", "/a/..."}, {"/a", ".b", "/a/.b"}, {"/a", "..b", "/a/..b"}, {"/a", "b.", "/a/b."}, {"/a", "b..", "/a/b.."}, {"/a", ".../..", "/a"}, {"/a", "/...", "/..."}, {"/a/...", "..", "/a"}, {"/..a", "..", "/"}, {"/a", "....//....", "/a/..../...."},
		{"/a", " ", "/a/ "}, {"/a", " b c ", "/a/ b c "}, {"/a", ". ", "/a/. "}, {"/a", " .", "/a/ ."}, {"/a", ".. ", "/a/.. "}, {"/a", " ..", "/a/ .."}, {"/a", " /b", "/a/ /b"}, {"/a ", "..", "/"}, {"/a", "/ ", "/ "}, {"/a", "b /../c", "/a/c"},
		{"/a", "\\", "/a/\\"}, {"/a", "..\\b", "/a/..\\b"}, {"/a", "%2e%2e", "/a/%2e%2e"}, {"/a", "~", "/a/~"}, {"/a", "-l", "/a/-l"}, {"/a/b", "A/B", "/a/b/A/B"},
	} {
		checkJoin(t, x.cwd, x.arg, x.want, api.OK)
		checkAsWanted(t, x.cwd, x.arg)
	}
}

// P10.1: from a path that may not be nothing leads anywhere, also an argument that would from elsewhere, or would be wrong, too (R2).
func TestJoinFromNoPath(t *testing.T) {
	args := append([]string{"", ".", "..", "/", "/b", "b", "../b", "/../b", pathOf(200), pathOf(201), pathOf(1 << 12), "b\x7f", "\r\n", "/\xff"}, strangeBytes...)
	for _, cwd := range badPaths() {
		for _, arg := range args {
			checkNowhere(t, cwd, arg, api.ErrArg)
		}
	}
}

// P10.1: an argument that is not Clean is of another form, at whichever place, also where it would be too long, too, or be left out (R2).
func TestJoinNotClean(t *testing.T) {
	for _, cwd := range goodPaths() {
		for _, b := range strangeBytes {
			for _, arg := range []string{b, "x" + b, b + "x", "/" + b, b + "/", "a/" + b, b + "/a", "a/" + b + "/b", b + "/..", "/a/" + b + "/..", "../" + b, pathOf(300) + b, b + pathOf(300), pathOf(300) + "/" + b + "/../..", strings.Repeat("../", 300) + b} {
				checkNowhere(t, cwd, arg, api.ErrForm)
			}
		}
	}
	everyByte(func(b string) {
		for _, arg := range []string{b, "a" + b, b + "a", "a" + b + "a", "/" + b, "a/" + b + "/a", "../" + b, "." + b, b + ".", "." + b + "."} {
			want := api.OK
			if !strings.Contains(inParts+"/", b) {
				want = api.ErrForm
			}
			if no := checkAsWanted(t, "/a/b", arg); no != want {
				t.Errorf("Join(/a/b, %q): %d, want %d", arg, no, want)
			}
		}
	})
}

// P10.1: paths of up to 200 bytes are told, and longer ones are not: of one part, of many, with / ahead and without, from the top and from elsewhere.
func TestJoinToLongPaths(t *testing.T) {
	for n := 190; n <= 420; n++ {
		for _, s := range []string{pathOf(n), manyOf(n)} {
			want, no := s, api.OK
			if n > 200 {
				want, no = "", api.ErrOver
			}
			for _, x := range [][2]string{{"/", s}, {"/", s[1:]}, {"/a/b", s}, {pathOf(200), s}, {"/a", "../" + s[1:]}, {"/a", "./../" + s[1:]}, {"/", s + "/"}, {"/", s[1:] + "//./"}, {"/a", s + "/b/.."}, {"/a/b", "../.." + s}} {
				checkJoin(t, x[0], x[1], want, no)
				checkAsWanted(t, x[0], x[1])
			}
		}
	}
}

// P10.1: the same from paths of each length, by one part more of each length.
func TestJoinBeyond(t *testing.T) {
	for _, path := range []func(n int) string{pathOf, manyOf} {
		for n := 2; n <= 200; n++ {
			for more := 1; more <= 201; more++ {
				part := strings.Repeat("z", more)
				if n+1+more > 200 {
					checkNowhere(t, path(n), part, api.ErrOver)
				} else {
					checkJoin(t, path(n), part, path(n)+"/"+part, api.OK)
				}
			}
		}
	}
	checkNowhere(t, manyOf(200), "y", api.ErrOver)
	checkNowhere(t, manyOf(200), "y/y/..", api.ErrOver)
	checkNowhere(t, pathOf(199), "y", api.ErrOver)
	checkJoin(t, pathOf(198), "y", pathOf(198)+"/y", api.OK)
	checkJoin(t, manyOf(198), "y", manyOf(198)+"/y", api.OK)
}

// P10.1: what is too long on the way alone is no error.
func TestJoinTooLongOnTheWay(t *testing.T) {
	for _, n := range []int{1, 2, 3, 98, 99, 100, 101, 102, 199, 200, 201, 1000, 1 << 14} {
		down, up := strings.Repeat("x/", n), strings.Repeat("../", n)
		for _, cwd := range []string{"/", "/a", "/a/b", pathOf(200), manyOf(200), manyOf(199)} {
			checkJoin(t, cwd, down+up, cwd, api.OK)
			checkJoin(t, cwd, "./"+down+"/"+up+".", cwd, api.OK)
			checkJoin(t, cwd, "/"+down+up+"y", "/y", api.OK)
			checkJoin(t, cwd, down+up+"../"+down+up, stdpath.Dir(cwd), api.OK)
			checkJoin(t, cwd, down+down+up+up+"../y", strings.TrimSuffix(stdpath.Dir(cwd), "/")+"/y", api.OK)
			checkAsWanted(t, cwd, down+down+up)
			checkAsWanted(t, cwd, down+up+down)
			checkAsWanted(t, cwd, "/"+down+down+up+"y/z")
			checkAsWanted(t, cwd, down+"../"+strings.Repeat("../y/", n)+up)
		}
	}
	checkJoin(t, pathOf(200), "y/..", pathOf(200), api.OK)
	checkJoin(t, manyOf(200), "y/..", manyOf(200), api.OK)
	checkJoin(t, "/a", pathOf(1<<16)+"/../b", "/b", api.OK)
	checkJoin(t, "/a", pathOf(1 << 16)[1:]+"/../b", "/a/b", api.OK)
	checkJoin(t, "/a", manyOf(1 << 10)[1:]+strings.Repeat("/..", 1<<9)+"/b", "/a/b", api.OK)
}

// P10.1: of parts that go in the midst of many, those that are put in their place are told, and those ahead of them stay.
func TestJoinInPlaceOfOthers(t *testing.T) {
	for depth := 1; depth <= 99; depth++ {
		cwd := manyOf(2 * depth)
		for up := 1; up <= depth; up++ {
			kept := cwd[:2*(depth-up)]
			ups := strings.Repeat("../", up)
			checkJoin(t, cwd, ups+"y", kept+"/y", api.OK)
			checkJoin(t, cwd, ups+"y/../z", kept+"/z", api.OK)
			if up > 1 {
				checkJoin(t, cwd, ups+"y/z", kept+"/y/z", api.OK)
				checkJoin(t, cwd, ups+"y/z/../w", kept+"/y/w", api.OK)
			}
		}
		for more := 1; more <= 99; more++ {
			checkAsWanted(t, cwd, "../"+strings.Repeat("y/", more)+"..")
		}
	}
}

// P10.1: arguments far longer than paths that lead to a short one, and such that do not.
func TestJoinLongArguments(t *testing.T) {
	const n = 1 << 17
	for _, x := range []struct{ arg, want string }{
		{strings.Repeat("/", n), "/"}, {"b" + strings.Repeat("/", n), "/a/b"}, {strings.Repeat("./", n) + "b", "/a/b"}, {strings.Repeat("../", n), "/"}, {strings.Repeat("../", n) + "b", "/b"}, {strings.Repeat("x/../", n), "/a"}, {strings.Repeat("../x/", n), "/x"}, {strings.Repeat("x/y/../../", n) + "b", "/a/b"},
		{strings.Repeat("x/", n) + strings.Repeat("../", n) + "b", "/a/b"}, {strings.Repeat("x/", n) + strings.Repeat("../y/", n) + strings.Repeat("../", n), "/a"}, {strings.Repeat("x/../../", n) + "b", "/b"}, {strings.Repeat("../x//./", n) + "b", "/x/b"}, {strings.Repeat("x", n) + "/../b", "/a/b"}, {"/" + strings.Repeat("x", n) + "/../b", "/b"},
	} {
		checkJoin(t, "/a", x.arg, x.want, api.OK)
	}
	for _, arg := range []string{strings.Repeat("x/", n), strings.Repeat("x", n), "/" + strings.Repeat(" ", n), strings.Repeat("...", n), strings.Repeat(".../", n), strings.Repeat("x/y/../", n), strings.Repeat("../x/", n) + strings.Repeat("y/", 200)} {
		checkNowhere(t, "/a", arg, api.ErrOver)
		checkNowhere(t, "/a/", arg, api.ErrArg)
		checkNowhere(t, "/a", arg+"\x7f", api.ErrForm)
	}
}

// P10.1: texts and slashes in every order, up to six of them, from several paths.
func TestJoinInEveryOrder(t *testing.T) {
	seen := map[api.Errno]int{}
	var all func(s string, left int)
	all = func(s string, left int) {
		for _, cwd := range []string{"/", "/a", "/a/b", "/a/b/c", pathOf(200), manyOf(200), "/a/", "a"} {
			seen[checkAsWanted(t, cwd, s)]++
		}
		for _, w := range []string{"/", ".", "..", "a", " ", "\x7f"} {
			if left > 0 {
				all(s+w, left-1)
			}
		}
	}
	all("", 6)
	for _, no := range []api.Errno{api.OK, api.ErrArg, api.ErrForm, api.ErrOver} {
		if seen[no] == 0 {
			t.Errorf("no argument had the error %d", no)
		}
	}
	if len(seen) != 4 {
		t.Errorf("the errors are %v", seen)
	}
}

// P10.1: May of texts and slashes in every order, up to seven of them.
func TestMayInEveryOrder(t *testing.T) {
	count := 0
	var all func(s string, left int)
	all = func(s string, left int) {
		if May(s) {
			count++
		}
		checkMay(t, s, wantMay(s))
		for _, w := range []string{"/", ".", "a", " ", "\x1f"} {
			if left > 0 {
				all(s+w, left-1)
			}
		}
	}
	all("", 7)
	if count == 0 {
		t.Error("no path may be")
	}
}

// P10.1, R2, R4: which error stands ahead of which, and that beside each the path is nothing.
func TestErrorsInOrder(t *testing.T) {
	for _, x := range []struct {
		cwd, arg string
		no       api.Errno
	}{
		{"a", "b", api.ErrArg}, {"", "", api.ErrArg}, {"/a/", "b", api.ErrArg}, {"/a/", "/b", api.ErrArg}, {"/..", "", api.ErrArg}, {pathOf(201), "..", api.ErrArg}, {"/\x7f", "..", api.ErrArg},
		{"a", "\x7f", api.ErrArg}, {"", "\r\n", api.ErrArg}, {"a", pathOf(201), api.ErrArg}, {"a", pathOf(201) + "\x7f", api.ErrArg}, {"\x7f", "\x7f", api.ErrArg},
		{"/a", "\x7f", api.ErrForm}, {"/", "b\n", api.ErrForm}, {"/a", pathOf(201) + "\x7f", api.ErrForm}, {pathOf(200), "y\x1f", api.ErrForm}, {"/a", "\xff/..", api.ErrForm},
		{"/a", pathOf(201), api.ErrOver}, {pathOf(200), "y", api.ErrOver}, {manyOf(200), "y", api.ErrOver}, {"/a", strings.Repeat("x", 198), api.ErrOver},
	} {
		checkNowhere(t, x.cwd, x.arg, x.no)
		checkAsWanted(t, x.cwd, x.arg)
	}
}

// P10.2: written by hand: the top and all, a path and itself, one with a part more or less, and those that differ.
func TestUnder(t *testing.T) {
	for _, x := range [][2]string{
		{"/", "/"}, {"/", "/a"}, {"/", "/a/b"}, {"/", "/..."}, {"/", pathOf(200)}, {"/", manyOf(200)}, {"/a", "/a"}, {"/a", "/a/b"}, {"/a", "/a/b/c"}, {"/a/b", "/a/b"}, {"/a/b", "/a/b/c"}, {"/a/b/c", "/a/b/c"}, {"/a", "/a/a"}, {"/a/a", "/a/a/a"},
		{"/ ", "/ / "}, {"/a ", "/a /b"}, {"/...", "/.../.a"}, {pathOf(200), pathOf(200)}, {manyOf(200), manyOf(200)}, {manyOf(198), manyOf(200)}, {"/x", manyOf(200)},
	} {
		checkUnder(t, x[0], x[1], true)
	}
	for _, x := range [][2]string{
		{"/a", "/"}, {"/a/b", "/"}, {"/a/b", "/a"}, {"/a/b/c", "/a/b"}, {"/a/b/c", "/a"}, {"/a/a", "/a"}, {"/a", "/ab"}, {"/ab", "/a"}, {"/a", "/ab/a"}, {"/a/b", "/a/bc"}, {"/a/bc", "/a/b"}, {"/a/b", "/ab"}, {"/ab", "/a/b"}, {"/a/b", "/ab/b"}, {"/a", "/a "}, {"/a ", "/a"}, {"/a", "/a."}, {"/a", "/A"}, {"/a", "/A/b"},
		{"/a", "/b"}, {"/a", "/b/a"}, {"/a/b", "/b/a"}, {"/b", "/a/b"}, {"/a/b", "/c/b"}, {"/a/b", "/a/c"}, {"/a/b/c", "/x/b/c"}, {"/a/b/c", "/a/x/c"}, {"/a/b/c", "/a/b/x"}, {"/a/b/c", "/x/b/c/d"}, {"/a/b/c", "/a/x/c/d"}, {"/a/b/c", "/a/b/x/d"}, {"/b/c", "/a/b/c"}, {"/a/c", "/a/b/c"},
		{pathOf(200), pathOf(199)}, {pathOf(199), pathOf(200)}, {manyOf(200), manyOf(198)}, {manyOf(198), manyOf(199)}, {"/...", "/.../" + strings.Repeat("x", 196)}, {"/a|/b", "/a"}, {"/a", "/a\\b"}, {"/a", "/a-/b"}, {"/a", "/a!/b"},
	} {
		checkUnder(t, x[0], x[1], false)
	}
}

// P10.2: of paths that may not be, on either side, none is under another, not even itself.
func TestUnderOfNoPaths(t *testing.T) {
	good := append(goodPaths(), "/a", "/")
	for _, bad := range badPaths() {
		checkUnder(t, bad, bad, false)
		for _, s := range good {
			checkUnder(t, bad, s, false)
			checkUnder(t, s, bad, false)
		}
		for _, other := range badPaths() {
			checkUnder(t, bad, other, false)
		}
	}
	for _, s := range goodPaths() {
		for _, bad := range []string{s + "//", s + "/.", s + "/..", s + "/a/", s + "/a/..", s + "//a", s + "/\x7f", s + "\x7f", s[1:], "/" + s, s + pathOf(200)} {
			if !wantMay(bad) {
				checkUnder(t, s, bad, false)
				checkUnder(t, bad, s, false)
				checkUnder(t, "/", bad, false)
			}
		}
	}
}

// P10.2: each path and each other one of those that may be.
func TestUnderOfAll(t *testing.T) {
	all := goodPaths()
	for _, top := range all {
		checkUnder(t, "/", top, true)
		checkUnder(t, top, top, true)
		checkUnder(t, top, "/", top == "/")
		for _, s := range all {
			checkUnder(t, top, s, wantUnder(top, s))
			if top != s && Under(top, s) && Under(s, top) {
				t.Errorf("%q and %q are under each other", short(top), short(s))
			}
		}
	}
}

// P10.2: what one and several parts lead to is under a path, and what differs in one of its parts is not.
func TestUnderByParts(t *testing.T) {
	for n := 1; n <= 30; n++ {
		top := strings.Repeat("/abc", n)
		for at := range n {
			ahead, behind := top[:4*at], top[4*at+4:]
			for _, other := range []string{"abcd", "ab", "abd", "bbc", "ABC", "abc ", " abc", "...", "a"} {
				s := ahead + "/" + other + behind
				checkUnder(t, top, s, false)
				checkUnder(t, top, s+"/d", false)
				checkUnder(t, s, top, false)
				checkUnder(t, s, top+"/d", false)
				checkUnder(t, "/"+other, top, false)
			}
			checkUnder(t, top, ahead+behind, false)
			checkUnder(t, top[:4*at+4], top, true)
		}
		checkUnder(t, top, top+"/d", true)
		checkUnder(t, top, top+"/d/e", true)
		checkUnder(t, top, top+"d", false)
	}
}

// P10.3: what leads nowhere else leads to the path itself, as does that path, from wherever.
func TestLeadsToItself(t *testing.T) {
	all := goodPaths()
	for _, s := range all {
		for _, arg := range []string{"", ".", "./", "./.", "././/.", "x/..", "./x/../", "x/y/../..", ".../..", " /..", strings.Repeat("z", 300) + "/.."} {
			checkJoin(t, s, arg, s, api.OK)
		}
		for _, cwd := range all {
			checkJoin(t, cwd, s, s, api.OK)
			checkJoin(t, cwd, s+"/", s, api.OK)
			checkJoin(t, cwd, "/"+s, s, api.OK)
			checkJoin(t, cwd, "/../"+s, s, api.OK)
			checkJoin(t, cwd, strings.Repeat("../", 101)+s, s, api.OK)
		}
	}
}

// P10.3: no .. leads above the top, however many there are, and what stands behind them is below it.
func TestNothingAboveTheTop(t *testing.T) {
	for _, cwd := range goodPaths() {
		for n := 100; n <= 110; n++ {
			ups := strings.Repeat("../", n)
			checkJoin(t, cwd, ups, "/", api.OK)
			checkJoin(t, cwd, strings.TrimSuffix(ups, "/"), "/", api.OK)
			checkJoin(t, cwd, ups+"a", "/a", api.OK)
			checkJoin(t, cwd, ups+"a/b/../c", "/a/c", api.OK)
			checkJoin(t, cwd, ups+"a/"+ups+"b", "/b", api.OK)
		}
		for n := range 10 {
			ups := strings.Repeat("/..", n)
			checkJoin(t, cwd, ups+"/", "/", api.OK)
			checkJoin(t, cwd, "/a"+ups+"/..", "/", api.OK)
			checkJoin(t, cwd, ups+"/b", "/b", api.OK)
		}
	}
}

// P10.3: a part more is under the path and leads there, and a .. leads back.
func TestThereAndBack(t *testing.T) {
	for _, cwd := range goodPaths() {
		for _, part := range goodParts {
			checkJoin(t, cwd, part+"/..", cwd, api.OK)
			s, no := Join(cwd, part)
			if no == api.ErrOver {
				continue
			}
			if !Under(cwd, s) || Under(s, cwd) || s != strings.TrimSuffix(cwd, "/")+"/"+part || no != api.OK {
				t.Errorf("Join(%q, %q) = %q, %d", short(cwd), part, short(s), no)
			}
			checkJoin(t, s, "..", cwd, api.OK)
			checkJoin(t, s, "../"+part, s, api.OK)
		}
	}
}

// P10.1 to P10.3: paths and arguments by chance, from a seed.
func TestByChance(t *testing.T) {
	chance := rand.New(rand.NewSource(10))
	words := append(append([]string{"/", "/", "/", "/", "/../", "/..", "../", "/./", ".", "..", "", "a", "b", "/a", "/b", "/a/b", strings.Repeat("x", 60), "/" + strings.Repeat("y", 97)}, goodParts[:30]...), strangeBytes[:3]...)
	text := func(most int) string {
		var s string
		for range chance.Intn(most + 1) {
			s += words[chance.Intn(len(words))]
		}
		return s
	}
	all := goodPaths()
	seen := map[api.Errno]int{}
	for range 1 << 15 {
		a, b := text(12), text(6)
		seen[checkAsWanted(t, all[chance.Intn(len(all))], a)]++
		seen[checkAsWanted(t, "/"+b, a)]++
		checkMay(t, "/"+b, wantMay("/"+b))
		s, _ := Join("/", b)
		to, _ := Join(s, a)
		checkUnder(t, s, to, wantUnder(s, to))
		checkUnder(t, s, "/"+b, wantUnder(s, "/"+b))
	}
	for _, no := range []api.Errno{api.OK, api.ErrArg, api.ErrForm, api.ErrOver} {
		if seen[no] == 0 {
			t.Errorf("no argument had the error %d", no)
		}
	}
}

// R5: what was asked ahead changes nothing.
func TestAfterOthers(t *testing.T) {
	asks := [][2]string{{"/a/b", "../c"}, {"/a", "../../.."}, {"a", "b"}, {"/a", "\x7f"}, {pathOf(200), "y"}, {"/", ""}, {manyOf(200), "../../z/w"}, {"/a", "/x//y/./z/.."}}
	for _, a := range asks {
		for _, b := range asks {
			checkAsWanted(t, a[0], a[1])
			checkAsWanted(t, b[0], b[1])
			checkAsWanted(t, a[0], a[1])
		}
	}
}

// P1: texts of many bytes are answered too.
func TestLongTexts(t *testing.T) {
	for _, s := range []string{
		strings.Repeat("/", 1<<20), strings.Repeat("x", 1<<20), strings.Repeat("/x", 1<<19), strings.Repeat("\x00", 1<<20), strings.Repeat("../", 1<<18), strings.Repeat("/..", 1<<18), "/" + strings.Repeat(".", 1<<20), strings.Repeat("x/../y/", 1<<17), strings.Repeat("x/", 1<<18) + strings.Repeat("../y/", 1<<18),
	} {
		checkMay(t, s, false)
		checkUnder(t, s, s, false)
		checkUnder(t, "/", s, false)
		for _, cwd := range []string{"/", "/a/b", manyOf(200), pathOf(200), s} {
			checkAsWanted(t, cwd, s)
			checkAsWanted(t, cwd, s+"\x7f")
		}
	}
}

// A part that goes is cut off with its room: one that is put in its place is in other memory, and the trail ahead of that still has what it had.
func TestTrail(t *testing.T) {
	ahead := trail{parts: []string{"a", "b", "c"}}
	up := ahead.up()
	if other := up.down("d"); !slices.Equal(other.parts, []string{"a", "b", "d"}) || other.below != 0 {
		t.Errorf("%+v", other)
	}
	if !slices.Equal(ahead.parts, []string{"a", "b", "c"}) || !slices.Equal(up.parts, []string{"a", "b"}) || cap(up.parts) != 2 {
		t.Errorf("%+v, %+v", ahead, up)
	}
	if s, fits := (trail{parts: []string{"a"}, below: 1}).path(); fits {
		t.Errorf("%q", s)
	}
	// However deep a trail is, no more of its parts are kept than a path may have.
	for range 1000 {
		ahead = ahead.down("x")
	}
	if len(ahead.parts) != 100 || ahead.below != 903 {
		t.Errorf("%d, %d", len(ahead.parts), ahead.below)
	}
}
