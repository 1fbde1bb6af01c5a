package cmd

import (
	"errors"
	"math/rand"
	"regexp"
	"slices"
	"strings"
	"testing"

	"wharfinger/api"
	"wharfinger/verb"
)

// The document's verbs, by whether each has an argument, written out so that they are not told as verb tells them.
const (
	without = "ABOR CDUP EPSV FEAT NOOP PASV PWD QUIT SYST"
	with    = "HELP LIST MLSD MLST NLST PASS STAT"
	needs   = "ACCT ALLO APPE CWD DELE EPRT MDTM MKD MODE PORT REST RETR RMD RNFR RNTO SIZE STOR STRU TYPE USER"
)

const great, small = "ABCDEFGHIJKLMNOPQRSTUVWXYZ", "abcdefghijklmnopqrstuvwxyz"

// printed are all bytes that are Clean, written out.
const printed = " !\"#$%&'()*+,-./0123456789:;<=>?@" + great + "[\\]^_`" + small + "{|}~"

// Patterns tell what may be sent, and where a line is cut, so that these are not told as Clean and Read tell them.
var (
	cleanOf = regexp.MustCompile(`\A[ -~]*\z`)
	lineOf  = regexp.MustCompile(`\A([A-Za-z]{3,4})(?: (.*))?\z`)
)

// strangeBytes are some that are not Clean: those beside the bounds, those that end lines, and those above 127.
var strangeBytes = []string{
	"\x00", "\x01", "\t", "\n", "\r", "\r\n", "\x1b", "\x1e", "\x1f", "\x7f", "\x80", "\x81", "\x9f", "\xa0", "\xc3", "\xe9", "\xf4", "\xfe", "\xff", "\u00e9", "\u00a0", "\u2003", "\u6211", "\ufeff", "\xed\xa0\x80", "\xff\xf4",
}

// goodArgs are Clean and not empty.
var goodArgs = []string{
	"x", "a b", "/a/b", " ", "  ", "   ", " x", "  x", "x ", "x  ", " x ", "a  b", "a   b  c ", "~", "!", "../../x", "-l", "RETR x", "10,0,0,1,1,2", "|1|10.0.0.1|80|", "me@ftp.a", "0", "%s%d", "\"", "\\r\\n", printed,
	strings.Repeat("x", 512), strings.Repeat(" ", 513), strings.Repeat("~", 1<<16),
}

// badArgs are not Clean: each strange byte alone, and at, ahead of and behind others.
func badArgs() []string {
	var all []string
	for _, b := range strangeBytes {
		all = append(all, b, b+"x", "x"+b, "a"+b+"b", " "+b, b+" ", "a b"+b+" c", strings.Repeat("x", 512)+b)
	}
	return all
}

// argOf tells whether a name, just so, has an argument (0: none, 1: it may, 2: it must), and whether it is a verb's.
func argOf(name string) (int, bool) {
	for arg, names := range []string{without, with, needs} {
		if slices.Contains(strings.Fields(names), name) {
			return arg, true
		}
	}
	return 0, false
}

func names() []string {
	return strings.Fields(without + " " + with + " " + needs)
}

func short(s string) string {
	if len(s) > 60 {
		return s[:60] + ".."
	}
	return s
}

// turned is a text with each letter of one alphabet as that of another one.
func turned(s, from, to string) string {
	b := []byte(s)
	for i, c := range b {
		if at := strings.IndexByte(from, c); at >= 0 {
			b[i] = to[at]
		}
	}
	return string(b)
}

func lower(s string) string { return turned(s, great, small) }

func upper(s string) string { return turned(s, small, great) }

// everyByte calls back with each of the 256 bytes, as a text.
func everyByte(f func(s string)) {
	for c := range 256 {
		f(string([]byte{byte(c)}))
	}
}

// inEachMixture calls back with a name in great letters, in small ones, and in all mixtures of both.
func inEachMixture(name string, f func(s string)) {
	little := lower(name)
	for mask := range 1 << len(name) {
		b := []byte(name)
		for i := range b {
			if mask>>i&1 == 1 {
				b[i] = little[i]
			}
		}
		f(string(b))
	}
}

func wantMay(c api.Cmd) bool {
	arg, is := argOf(c.Verb)
	return is && cleanOf.MatchString(c.Arg) && (arg != 0 || c.Arg == "") && (arg != 2 || c.Arg != "")
}

func wantPrint(c api.Cmd) (string, bool) {
	if !wantMay(c) {
		return "", false
	}
	words := []string{c.Verb, c.Arg}
	if c.Arg == "" {
		words = words[:1]
	}
	return strings.Join(words, " "), true
}

func wantRead(s string) (api.Cmd, api.Errno) {
	if !cleanOf.MatchString(s) {
		return api.Cmd{}, api.ErrForm
	}
	m := lineOf.FindStringSubmatch(s)
	if m == nil {
		return api.Cmd{}, api.ErrForm
	}
	c := api.Cmd{Verb: upper(m[1]), Arg: m[2]}
	if _, is := argOf(c.Verb); !is {
		return api.Cmd{}, api.ErrNone
	}
	if !wantMay(c) {
		return api.Cmd{}, api.ErrArg
	}
	return c, api.OK
}

func checkClean(t *testing.T, s string, want bool) {
	t.Helper()
	if got := Clean(s); got != want {
		t.Errorf("Clean(%q) = %t, want %t", short(s), got, want)
	}
}

// checkCmd asks whether a command may be, and how it is printed.
func checkCmd(t *testing.T, name, arg string, want string, wantIs bool) {
	t.Helper()
	c := api.Cmd{Verb: name, Arg: arg}
	if got := May(c); got != wantIs {
		t.Errorf("May(%q, %q) = %t, want %t", short(name), short(arg), got, wantIs)
	}
	if s, is := Print(c); s != want || is != wantIs {
		t.Errorf("Print(%q, %q) = %q, %t, want %q, %t", short(name), short(arg), short(s), is, short(want), wantIs)
	}
}

// checkMayNot: such a command may not be, and nothing and false are printed of it.
func checkMayNot(t *testing.T, name, arg string) {
	t.Helper()
	checkCmd(t, name, arg, "", false)
}

func checkRead(t *testing.T, s string, want api.Cmd, wantNo api.Errno) {
	t.Helper()
	if c, no := Read(s); c != want || no != wantNo {
		t.Errorf("Read(%q) = %q, %d, want %q, %d", short(s), c, no, want, wantNo)
	}
}

// checkNoLine: of such a line noughts are told, with the error.
func checkNoLine(t *testing.T, s string, no api.Errno) {
	t.Helper()
	checkRead(t, s, api.Cmd{}, no)
}

// checkAsWanted holds Read against the patterns, and what follows of what was read against P8.3.
func checkAsWanted(t *testing.T, s string) bool {
	t.Helper()
	c, no := wantRead(s)
	checkRead(t, s, c, no)
	if no == api.OK {
		checkPrintedAlike(t, s)
	}
	return no == api.OK
}

// checkPrintedAlike: a line that is read is printed alike, but for small letters of the verb, and a blank behind it without more.
func checkPrintedAlike(t *testing.T, s string) {
	t.Helper()
	end := strings.IndexByte(s, ' ')
	if end < 0 {
		end = len(s)
	}
	want := upper(s[:end]) + s[end:]
	if s[end:] == " " {
		want = upper(s[:end])
	}
	c, no := Read(s)
	if got, is := Print(c); got != want || !is || no != api.OK {
		t.Errorf("Read(%q) = %q, %d; Print of that = %q, %t, want %q", short(s), c, no, short(got), is, short(want))
	}
}

// checkPrintedIsRead: what is printed of a command is read as that one.
func checkPrintedIsRead(t *testing.T, c api.Cmd) {
	t.Helper()
	s, is := Print(c)
	if got, no := Read(s); got != c || no != api.OK || !is {
		t.Errorf("Print(%q) = %q, %t; Read of that = %q, %d", c, short(s), is, got, no)
	}
}

// The tests' own list of verbs is the document's, as verb has it.
func TestNames(t *testing.T) {
	all := verb.All()
	if len(names()) != 36 || len(all) != 36 {
		t.Fatalf("there are %d and %d verbs, want 36", len(names()), len(all))
	}
	for _, v := range all {
		if arg, is := argOf(v.Name); !is || arg != v.Arg {
			t.Errorf("%+v: %d, %t", v, arg, is)
		}
	}
}

// P8.1: of the 256 bytes those from 32 to 126 are Clean: alone, ahead of others, behind them, between them, and beside each other one.
func TestCleanOfEveryByte(t *testing.T) {
	count := 0
	for a := range 256 {
		is := a >= 32 && a <= 126
		if is {
			count++
		}
		s := string([]byte{byte(a)})
		if is != strings.Contains(printed, s) {
			t.Fatalf("byte %d: the Clean ones are written wrong", a)
		}
		for _, text := range []string{s, s + "x", "x" + s, "a" + s + "b", s + s, s + " ", " " + s, s + "~", "~" + s, printed + s, s + printed, strings.Repeat("x", 1<<12) + s} {
			checkClean(t, text, is)
		}
		for b := range 256 {
			checkClean(t, s+string([]byte{byte(b)}), is && b >= 32 && b <= 126)
		}
	}
	if count != 95 || len(printed) != 95 {
		t.Errorf("there are %d and %d Clean bytes, want 95", count, len(printed))
	}
}

// P8.1: texts of no byte, and of many.
func TestClean(t *testing.T) {
	for _, s := range []string{"", " ", "~", " ~", "~ ", "     ", "retr a b", "RETR ../../x", printed, strings.Repeat(printed, 1<<10), strings.Repeat(" ", 1<<20)} {
		checkClean(t, s, true)
	}
	for _, s := range badArgs() {
		checkClean(t, s, false)
	}
	for _, s := range []string{"RETR x\r\n", "\x1f ~", " ~\x7f", " \x1f~", "é", "aé", "ａ", "\u00a0", strings.Repeat("x", 1<<20) + "\x7f", "\x1f" + strings.Repeat("x", 1<<20), strings.Repeat("\xff", 1<<20)} {
		checkClean(t, s, false)
	}
}

// P8.1: each verb with no argument: one with Arg 2 may not be so, and of all others no blank stands at the end.
func TestMayWithout(t *testing.T) {
	for _, name := range strings.Fields(without + " " + with) {
		checkCmd(t, name, "", name, true)
	}
	for _, name := range strings.Fields(needs) {
		checkMayNot(t, name, "")
	}
}

// P8.1: each verb with arguments, a single blank among them, and some that begin or end by a blank or have several in a row: one with Arg 0 may not be so.
func TestMayWith(t *testing.T) {
	for _, arg := range goodArgs {
		for _, name := range strings.Fields(with + " " + needs) {
			checkCmd(t, name, arg, name+" "+arg, true)
		}
		for _, name := range strings.Fields(without) {
			checkMayNot(t, name, arg)
		}
	}
}

// P8.1: each verb with an argument of each byte, alone and between others.
func TestMayWithEveryByte(t *testing.T) {
	for _, name := range names() {
		everyByte(func(b string) {
			for _, arg := range []string{b, b + "x", "x" + b, "a " + b + " b"} {
				want, is := wantPrint(api.Cmd{Verb: name, Arg: arg})
				checkCmd(t, name, arg, want, is)
			}
		})
	}
}

// P8.1: no verb may be with an argument that is not Clean.
func TestMayWithWrong(t *testing.T) {
	for _, name := range names() {
		for _, arg := range badArgs() {
			checkMayNot(t, name, arg)
		}
	}
}

// P8.1: how commands are printed, written by hand.
func TestPrint(t *testing.T) {
	for _, x := range []struct{ name, arg, want string }{
		{"RETR", "a b", "RETR a b"}, {"RETR", " a", "RETR  a"}, {"RETR", "a ", "RETR a "}, {"RETR", "a  b", "RETR a  b"}, {"RETR", " ", "RETR  "}, {"RETR", "   ", "RETR    "},
		{"NOOP", "", "NOOP"}, {"PASS", "", "PASS"}, {"PASS", " ", "PASS  "}, {"PASS", "x", "PASS x"}, {"LIST", "", "LIST"}, {"LIST", "-l /a", "LIST -l /a"}, {"PWD", "", "PWD"}, {"CWD", "/", "CWD /"}, {"USER", "me@ftp.a", "USER me@ftp.a"},
	} {
		checkCmd(t, x.name, x.arg, x.want, true)
	}
	for _, x := range []struct{ name, arg string }{
		{"", ""}, {"", "x"}, {" ", ""}, {"retr", "a"}, {"Retr", "a"}, {"RETR", ""}, {"PASV", "x"}, {"NOOP", " "}, {"RETR", "\x7f"}, {"RETR", "a\r\nDELE a"}, {"RETR a", ""}, {"RETR a", "b"}, {"RETR ", "a"}, {"NOOP ", ""}, {"SITE", ""}, {"SITE", "x"}, {"RETR\r\n", "a"},
	} {
		checkMayNot(t, x.name, x.arg)
	}
}

// P8.1: a verb's name in small letters, and in each mixture but great letters alone, may not be.
func TestMayNotInSmallLetters(t *testing.T) {
	for _, name := range names() {
		inEachMixture(name, func(s string) {
			for _, arg := range []string{"", "x", " "} {
				if s != name {
					checkMayNot(t, s, arg)
				}
			}
		})
	}
}

// aroundNames are all verbs' names with one byte more, ahead, within or behind, or with one less.
func aroundNames() []string {
	var all []string
	for _, name := range names() {
		for at := range len(name) {
			all = append(all, name[:at]+name[at+1:])
		}
		for at := range len(name) + 1 {
			everyByte(func(b string) { all = append(all, name[:at]+b+name[at:]) })
		}
	}
	return all
}

// P8.1: names with one byte more, with one less, and of no verb.
func TestMayNotOfNoVerb(t *testing.T) {
	none := []string{"", " ", "X", "XY", "XYZ", "SITE", "REIN", "STOU", "OPTS", "AUTH", "RETRX", "RETR x", "ＲＥＴＲ", "\xd2ETR", "\x00\x00\x00\x00", strings.Repeat("RETR", 1<<16), strings.Repeat("A", 1<<20)}
	for _, name := range append(aroundNames(), none...) {
		for _, arg := range []string{"", "x"} {
			checkMayNot(t, name, arg)
		}
	}
}

// P8.1: each name with each byte at each place.
func TestMayEveryByteOfNames(t *testing.T) {
	for _, name := range names() {
		for at := range len(name) {
			everyByte(func(b string) {
				for _, arg := range []string{"", "x"} {
					near := name[:at] + b + name[at+1:]
					want, is := wantPrint(api.Cmd{Verb: near, Arg: arg})
					checkCmd(t, near, arg, want, is)
				}
			})
		}
	}
}

// P8.2: the chapter's examples, and what stands near them.
func TestRead(t *testing.T) {
	for _, x := range []struct{ s, name, arg string }{
		{"retr a b", "RETR", "a b"}, {"RETR a b", "RETR", "a b"}, {"NOOP", "NOOP", ""}, {"noop", "NOOP", ""}, {"noop ", "NOOP", ""}, {"list", "LIST", ""}, {"list ", "LIST", ""}, {"list  ", "LIST", " "}, {"list x", "LIST", "x"},
		{"CWD x", "CWD", "x"}, {"CWD  x", "CWD", " x"}, {"CWD x ", "CWD", "x "}, {"cwd   ", "CWD", "  "}, {"pwd", "PWD", ""}, {"PaSs Se Cret", "PASS", "Se Cret"}, {"pass", "PASS", ""}, {"user Me@ftp.a", "USER", "Me@ftp.a"}, {"retr retr", "RETR", "retr"}, {"RETR ~", "RETR", "~"},
	} {
		checkRead(t, x.s, api.Cmd{Verb: x.name, Arg: x.arg}, api.OK)
	}
	for _, s := range []string{"NOOP x", "noop x", "NOOP  ", "PWD  ", "pasv x", "QUIT now", "RETR", "retr", "RETR ", "retr ", "USER", "CWD", "CWD "} {
		checkNoLine(t, s, api.ErrArg)
	}
	for _, s := range []string{"SITE x", "SITE", "site ", "XYZ", "xyz x", "REIN", "LIS", "STO", "RETX a", "XMKD a", "AAA", "zzzz", "AZaz"} {
		checkNoLine(t, s, api.ErrNone)
	}
	for _, s := range []string{"", " ", "  ", " RETR a", "  RETR a", " NOOP", "RETRX a", "RE1 a", "RETR a\tb", "RETR\ta", "RETR \xc3", "NOOP\r\n", "NOOP\n", "\xff\xf4ABOR", "R", "RE a", "RETR/a", "RETR-a b", "220 ok"} {
		checkNoLine(t, s, api.ErrForm)
	}
}

// P8.2: each verb's line, in great letters, in small ones and in each mixture: without more, with a blank behind, with two, and with arguments.
func TestReadInEachMixture(t *testing.T) {
	behind := append([]string{"", " x", " X", " a b", "  x", " x ", "  ", "   ", " "}, " "+printed)
	for _, name := range names() {
		inEachMixture(name, func(s string) {
			for _, rest := range behind {
				checkAsWanted(t, s+rest)
			}
		})
	}
}

// P8.2: the same, by which verbs have arguments.
func TestReadByArgument(t *testing.T) {
	for _, name := range strings.Fields(without) {
		for _, s := range []string{name, lower(name), name + " ", lower(name) + " "} {
			checkRead(t, s, api.Cmd{Verb: name}, api.OK)
		}
		for _, arg := range goodArgs {
			checkNoLine(t, name+" "+arg, api.ErrArg)
			checkNoLine(t, lower(name)+" "+arg, api.ErrArg)
		}
	}
	for _, name := range strings.Fields(with) {
		for _, s := range []string{name, lower(name), name + " ", lower(name) + " "} {
			checkRead(t, s, api.Cmd{Verb: name}, api.OK)
		}
	}
	for _, name := range strings.Fields(needs) {
		for _, s := range []string{name, lower(name), name + " ", lower(name) + " "} {
			checkNoLine(t, s, api.ErrArg)
		}
	}
	for _, name := range strings.Fields(with + " " + needs) {
		for _, arg := range goodArgs {
			checkRead(t, name+" "+arg, api.Cmd{Verb: name, Arg: arg}, api.OK)
			checkRead(t, lower(name)+" "+arg, api.Cmd{Verb: name, Arg: arg}, api.OK)
		}
	}
}

// P8.2, R2: a line that is not Clean is of another form, whatever else it is: of a known verb, of none, with an argument that may not be, or with too few letters.
func TestReadNotCleanFirst(t *testing.T) {
	for _, name := range append(names(), "SITE", "XYZ", "AB", "A", "", "RETRX", "RE1", " RETR") {
		for _, arg := range badArgs() {
			checkNoLine(t, name+" "+arg, api.ErrForm)
			checkNoLine(t, lower(name)+" "+arg, api.ErrForm)
			checkNoLine(t, name+arg, api.ErrForm)
			checkNoLine(t, arg+name, api.ErrForm)
			checkNoLine(t, arg+name+" x", api.ErrForm)
		}
	}
}

// P8.2, R2: letters of the right number that are no verb's name are told ahead of arguments, and letters that are too few or too many ahead of that.
func TestReadNoVerbAheadOfArgument(t *testing.T) {
	rests := []string{"", " ", "  "}
	for _, arg := range goodArgs {
		rests = append(rests, " "+arg)
	}
	for _, rest := range rests {
		for _, name := range []string{"SITE", "site", "REIN", "XYZ", "xyz", "LIS", "STO", "PAS", "USE", "NOO", "AAA", "ZZZZ", "aaaa", "zzz", "azAZ", "XCWD", "CWDX", "PWDD"} {
			checkNoLine(t, name+rest, api.ErrNone)
		}
		for _, name := range []string{"", "A", "AB", "pw", "CW", "NO", "RETRX", "NOOPS", "noops", "SITES", "RETRRETR", strings.Repeat("A", 512), strings.Repeat("RETR", 1<<16)} {
			checkNoLine(t, name+rest, api.ErrForm)
		}
	}
}

// P8.2: of what stands ahead of the first blank only three and four letters can be a name's.
func TestReadLengths(t *testing.T) {
	for n := range 20 {
		for _, letter := range []string{"A", "Z", "a", "z", "m"} {
			want := api.ErrForm
			if n == 3 || n == 4 {
				want = api.ErrNone
			}
			s := strings.Repeat(letter, n)
			for _, rest := range []string{"", " ", " x", "  x"} {
				checkNoLine(t, s+rest, want)
			}
		}
	}
}

// P8.2: each name with each byte at each place, instead of what stands there, ahead of it, or with that left out: digits, marks, bytes beside A, Z, a and z, and blanks, which cut the line there.
func TestReadEveryByteAtEveryPlace(t *testing.T) {
	for _, name := range append(names(), "SITE", "XYZ") {
		for _, s := range []string{name, lower(name) + " ", name + " x", lower(name) + "  x"} {
			for at := range len(s) + 1 {
				readEveryByteAt(t, s, at)
			}
		}
	}
}

func readEveryByteAt(t *testing.T, s string, at int) {
	t.Helper()
	if at < len(s) {
		checkAsWanted(t, s[:at]+s[at+1:])
	}
	everyByte(func(b string) {
		checkAsWanted(t, s[:at]+b+s[at:])
		if at < len(s) {
			checkAsWanted(t, s[:at]+b+s[at+1:])
		}
	})
}

// P8.2: the same, by hand: bytes beside the letters, digits and marks make another form of it, and letters no verb.
func TestReadBesideLetters(t *testing.T) {
	for _, at := range []int{0, 1, 2, 3} {
		for _, b := range []string{"@", "[", "`", "{", "0", "9", "1", "-", "_", ".", "/", "~", "!", "\x1f", "\x7f", "\xc1", "\xe1", "\xff"} {
			for _, rest := range []string{"", " ", " x"} {
				checkNoLine(t, "NOOP"[:at]+b+"NOOP"[at+1:]+rest, api.ErrForm)
				checkNoLine(t, "retr"[:at]+b+"retr"[at+1:]+rest, api.ErrForm)
				checkNoLine(t, "XYZW"[:at]+b+"XYZW"[at+1:]+rest, api.ErrForm)
			}
		}
		for _, b := range []string{"A", "Z", "a", "z"} {
			checkNoLine(t, "QQQQ"[:at]+b+"QQQQ"[at+1:]+" x", api.ErrNone)
		}
	}
}

// P8.2: of all names of three letters only four are verbs, the others are none.
func TestReadThreeLetters(t *testing.T) {
	for _, a := range great {
		for _, b := range great + small {
			for _, c := range great {
				s := string([]rune{a, b, c})
				checkAsWanted(t, s)
				checkAsWanted(t, s+" x")
			}
		}
	}
}

// R4: beside an error all else is noughts, whatever was read till then.
func TestNoughtsBesideErrors(t *testing.T) {
	seen := map[api.Errno]int{}
	for _, s := range []string{"", " x", "RETR \x7f", "SITE x", "RETR", "RETR ", "NOOP x", "noop  ", "RETRX x", "LIST a\nb", "retr"} {
		c, no := Read(s)
		if c != (api.Cmd{}) || no == api.OK {
			t.Errorf("Read(%q) = %q, %d", s, c, no)
		}
		seen[no]++
	}
	for _, no := range []api.Errno{api.ErrArg, api.ErrForm, api.ErrNone} {
		if seen[no] == 0 {
			t.Errorf("no line had the error %d", no)
		}
	}
	if len(seen) != 3 {
		t.Errorf("the errors are %v", seen)
	}
}

// P8.2, P8.3: letters, blanks and other bytes in every order, up to six of them.
func TestReadInEveryOrder(t *testing.T) {
	words := []string{" ", "C", "w", "D", "RETR", "noop", "LIST", "1", "\x7f"}
	read := 0
	var all func(s string, left int)
	all = func(s string, left int) {
		if checkAsWanted(t, s) {
			read++
		}
		for i := 0; left > 0 && i < len(words); i++ {
			all(s+words[i], left-1)
		}
	}
	all("", 6)
	if read == 0 {
		t.Error("no line was read")
	}
}

// P8.3: what is printed is read as the same command, of each verb with all arguments that it may have.
func TestPrintedIsRead(t *testing.T) {
	for _, name := range names() {
		arg, _ := argOf(name)
		if arg != 2 {
			checkPrintedIsRead(t, api.Cmd{Verb: name})
		}
		if arg == 0 {
			continue
		}
		for _, arg := range goodArgs {
			checkPrintedIsRead(t, api.Cmd{Verb: name, Arg: arg})
		}
		for i := range len(printed) {
			for _, other := range []string{"", " ", "x", printed[i : i+1]} {
				checkPrintedIsRead(t, api.Cmd{Verb: name, Arg: printed[i:i+1] + other})
				checkPrintedIsRead(t, api.Cmd{Verb: name, Arg: other + printed[i:i+1]})
			}
		}
	}
}

// P8.3: what is read is printed alike, written by hand.
func TestReadIsPrintedAlike(t *testing.T) {
	for _, x := range []struct{ s, want string }{
		{"retr a b", "RETR a b"}, {"RETR a b", "RETR a b"}, {"RETR a b ", "RETR a b "}, {"rEtR  a", "RETR  a"}, {"noop", "NOOP"}, {"noop ", "NOOP"}, {"NOOP ", "NOOP"}, {"pass ", "PASS"}, {"pass  ", "PASS  "}, {"list -L", "LIST -L"}, {"cwd cwd", "CWD cwd"},
	} {
		c, no := Read(x.s)
		if s, is := Print(c); s != x.want || !is || no != api.OK {
			t.Errorf("Read(%q) = %q, %d; Print of that = %q, %t, want %q", x.s, c, no, s, is, x.want)
		}
		checkPrintedAlike(t, x.s)
	}
}

// P8.1 to P8.3: lines and commands by chance, from a seed, of verbs, letters, blanks and bytes that are not Clean.
func TestByChance(t *testing.T) {
	chance := rand.New(rand.NewSource(8))
	words := append(append(names(), strangeBytes...), " ", " ", " ", "a", "Z", "1", "/", "..", "site", "noop", "retr", printed)
	text := func(most int) string {
		var s string
		for range chance.Intn(most + 1) {
			s += words[chance.Intn(len(words))]
		}
		return s
	}
	for range 1 << 14 {
		checkAsWanted(t, text(6))
		checkAsWanted(t, names()[chance.Intn(36)]+" "+text(3))
		c := api.Cmd{Verb: names()[chance.Intn(36)], Arg: text(3)}
		want, is := wantPrint(c)
		checkCmd(t, c.Verb, c.Arg, want, is)
		if is {
			checkPrintedIsRead(t, c)
		}
	}
}

// R5: what was asked ahead changes nothing.
func TestAfterOthers(t *testing.T) {
	lines := []string{"retr a b", "NOOP x", "SITE x", "", "RETR", "noop ", "RETR \x7f", "list", "USER me@ftp.a", "RETRX a"}
	for _, a := range lines {
		for _, b := range lines {
			checkAsWanted(t, a)
			checkAsWanted(t, b)
			checkAsWanted(t, a)
		}
	}
}

// P1: texts and commands of many bytes are answered too.
func TestLongTexts(t *testing.T) {
	for _, s := range []string{
		strings.Repeat(" ", 1<<20), strings.Repeat("A", 1<<20), strings.Repeat("\x00", 1<<20), strings.Repeat("RETR ", 1<<18), "RETR " + strings.Repeat("x", 1<<20), "NOOP" + strings.Repeat(" ", 1<<20), "LIST " + strings.Repeat("~", 1<<20) + "\x7f",
	} {
		checkAsWanted(t, s)
		for _, c := range []api.Cmd{{Verb: s}, {Verb: s, Arg: s}, {Verb: "RETR", Arg: s}, {Verb: "NOOP", Arg: s}} {
			want, is := wantPrint(c)
			checkCmd(t, c.Verb, c.Arg, want, is)
		}
	}
}

// wrapper is another error about one.
type wrapper struct{ error }

func (w wrapper) Unwrap() error { return w.error }

// Why a line is none is told by a fault, which names the part at which that shows, and is found by errors.As, also within another error.
func TestFaults(t *testing.T) {
	for _, x := range []struct {
		s, part string
		no      api.Errno
	}{
		{"\x7f", "line", api.ErrForm}, {"RETR a\r\n", "line", api.ErrForm}, {"SI \x80", "line", api.ErrForm}, {"", "name", api.ErrForm}, {" RETR a", "name", api.ErrForm}, {"RE1 a", "name", api.ErrForm},
		{"SITE x", "verb", api.ErrNone}, {"xyz", "verb", api.ErrNone}, {"NOOP x", "argument", api.ErrArg}, {"retr", "argument", api.ErrArg}, {"retr ", "argument", api.ErrArg},
	} {
		c, err := readLine(x.s)
		for _, e := range []error{err, wrapper{err}} {
			var f fault
			if !errors.As(e, &f) || f != (fault{x.part, x.no}) || c != (api.Cmd{}) {
				t.Errorf("readLine(%q) = %q, %v, want a fault of its %s, %d", x.s, c, err, x.part, x.no)
			}
		}
		if want := x.part + ": error " + string(rune('0'+x.no)); err != nil && err.Error() != want {
			t.Errorf("readLine(%q): %q, want %q", x.s, err.Error(), want)
		}
	}
	if c, err := readLine("retr a b"); err != nil || c != (api.Cmd{Verb: "RETR", Arg: "a b"}) {
		t.Error(c, err)
	}
}
