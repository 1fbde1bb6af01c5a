package reply

import (
	"fmt"
	"math"
	"math/rand"
	"regexp"
	"slices"
	"strconv"
	"strings"
	"testing"

	"wharfinger/api"
)

// nothing is a gather of which nothing has come.
var nothing api.Gather

// Patterns tell what may be sent, and how a reply's first line, and what ends one, look, so that these are not told as the package tells them.
var (
	cleanOf = regexp.MustCompile(`\A[ -~]*\z`)
	firstOf = regexp.MustCompile(`\A([1-5][0-9][0-9])(?:([ -])(.*))?\z`)
	endOf   = regexp.MustCompile(`(?s)\A(-?[0-9]+)(?: (.*))?\z`)
)

// printed are all bytes that are Clean, written out.
const printed = " !\"#$%&'()*+,-./0123456789:;<=>?@ABCDEFGHIJKLMNOPQRSTUVWXYZ[\\]^_`abcdefghijklmnopqrstuvwxyz{|}~"

// strangeBytes are some that are not Clean: those beside the bounds, those that end lines, and those above 127.
var strangeBytes = []string{
	"\x00", "\x01", "\t", "\n", "\r", "\r\n", "\x1b", "\x1f", "\x7f", "\x80", "\xa0", "\xc3", "\xe9", "\xfe", "\xff", "\u00e9", "\u00a0", "\u2003", "\u6211", "\ufeff",
}

// noCodes are numbers that are no code of a reply.
var noCodes = []int{99, 600, 0, -1, 1, 10, 22, -100, -220, -599, 601, 999, 1000, 1220, 2200, math.MaxInt, math.MinInt}

func reply(code int, lines ...string) api.Reply {
	return api.Reply{Code: code, Lines: lines}
}

func open(code int, lines ...string) api.Gather {
	return api.Gather{Code: code, Lines: lines, Open: true}
}

// many are so many lines that differ, and none of them ends a reply.
func many(n int) []string {
	var all []string
	for i := range n {
		all = append(all, "line "+strconv.Itoa(i))
	}
	return all
}

// put is lines with another one at a place.
func put(lines []string, at int, s string) []string {
	all := slices.Clone(lines)
	all[at] = s
	return all
}

func short(s string) string {
	if len(s) > 60 {
		return s[:60] + ".."
	}
	return s
}

// show is an answer, or what was given, as a text that tells all of it, but how lists without elements are kept.
func show(of ...any) string {
	var all []string
	for _, x := range of {
		all = append(all, fmt.Sprintf("%#v", x))
	}
	return strings.ReplaceAll(strings.Join(all, " "), "[]string(nil)", "[]string{}")
}

// everyByte calls back with each of the 256 bytes, as a text.
func everyByte(f func(s string)) {
	for c := range 256 {
		f(string([]byte{byte(c)}))
	}
}

// wantEnd is what stands behind the code, if a line ends a reply of that.
func wantEnd(s string, code int) (string, bool) {
	m := endOf.FindStringSubmatch(s)
	if m == nil || m[1] != strconv.Itoa(code) {
		return "", false
	}
	return m[2], true
}

func wantMay(r api.Reply) bool {
	n := len(r.Lines)
	if r.Code < 100 || r.Code > 599 || n == 0 || n > 20 {
		return false
	}
	for _, s := range r.Lines {
		if len(s) > 500 || !cleanOf.MatchString(s) {
			return false
		}
	}
	return n < 3 || !slices.ContainsFunc(r.Lines[1:n-1], func(s string) bool {
		_, ends := wantEnd(s, r.Code)
		return ends
	})
}

func wantPrint(r api.Reply) ([]string, bool) {
	if !wantMay(r) {
		return nil, false
	}
	code, n := strconv.Itoa(r.Code), len(r.Lines)
	if n == 1 {
		return []string{code + " " + r.Lines[0]}, true
	}
	all := []string{code + "-" + r.Lines[0]}
	all = append(all, r.Lines[1:n-1]...)
	return append(all, code+" "+r.Lines[n-1]), true
}

// answer is what Take tells.
type answer struct {
	g  api.Gather
	r  api.Reply
	is bool
	no api.Errno
}

func takeOf(g api.Gather, s string) answer {
	to, r, is, no := Take(g, s)
	return answer{to, r, is, no}
}

func failed(no api.Errno) answer { return answer{no: no} }

func goesOn(g api.Gather) answer { return answer{g: g} }

func ended(r api.Reply) answer { return answer{r: r, is: true} }

func (a answer) String() string { return show(a.g, a.r, a.is, int(a.no)) }

func (a answer) same(b answer) bool {
	gathers := a.g.Code == b.g.Code && a.g.Open == b.g.Open && slices.Equal(a.g.Lines, b.g.Lines)
	replies := a.r.Code == b.r.Code && slices.Equal(a.r.Lines, b.r.Lines)
	return gathers && replies && a.is == b.is && a.no == b.no
}

// lines are some lines with more behind them.
func lines(l []string, more ...string) []string {
	return append(slices.Clone(l), more...)
}

func wantTake(g api.Gather, s string) answer {
	if len(s) > 504 || !cleanOf.MatchString(s) {
		return failed(api.ErrForm)
	}
	if g.Open {
		return wantNext(g, s)
	}
	m := firstOf.FindStringSubmatch(s)
	if m == nil {
		return failed(api.ErrForm)
	}
	code, _ := strconv.Atoi(m[1])
	if m[2] == "-" {
		return goesOn(open(code, m[3]))
	}
	return ended(reply(code, m[3]))
}

func wantNext(g api.Gather, s string) answer {
	text, ends := wantEnd(s, g.Code)
	switch {
	case ends:
		return ended(reply(g.Code, lines(g.Lines, text)...))
	case len(g.Lines) > 18:
		return failed(api.ErrOver)
	}
	return goesOn(open(g.Code, lines(g.Lines, s)...))
}

// checkPrint asks whether a reply may be, and how it is printed.
func checkPrint(t *testing.T, r api.Reply, want []string, wantIs bool) {
	t.Helper()
	if got := May(r); got != wantIs {
		t.Errorf("May(%s) = %t, want %t", short(show(r)), got, wantIs)
	}
	if got, is := Print(r); !slices.Equal(got, want) || is != wantIs || !is && len(got) != 0 {
		t.Errorf("Print(%s) = %q, %t, want %q, %t", short(show(r)), got, is, want, wantIs)
	}
}

// checkMayNot: such a reply may not be, and nothing and false are printed of it.
func checkMayNot(t *testing.T, r api.Reply) {
	t.Helper()
	checkPrint(t, r, nil, false)
}

// checkReply holds May and Print against the patterns, and what was printed against P9.3. It tells whether the reply may be.
func checkReply(t *testing.T, r api.Reply) bool {
	t.Helper()
	want, is := wantPrint(r)
	checkPrint(t, r, want, is)
	if is {
		checkPrintedIsTaken(t, r)
	}
	return is
}

// checkMay: such a reply may be.
func checkMay(t *testing.T, r api.Reply) {
	t.Helper()
	if !checkReply(t, r) {
		t.Errorf("the tests' own May(%s) is false", short(show(r)))
	}
}

// checkPrintedIsTaken: what is printed is taken as the same reply, at its last line and not ahead (P9.3).
func checkPrintedIsTaken(t *testing.T, r api.Reply) {
	t.Helper()
	all, _ := Print(r)
	g := nothing
	for i, s := range all {
		a := takeOf(g, s)
		last := i == len(all)-1
		if a.no != api.OK || a.is != last || a.g.Open == last || last && !a.same(ended(r)) {
			t.Errorf("Take of line %d of %s: %s", i, short(show(r)), a)
		}
		g = a.g
	}
}

func checkTake(t *testing.T, g api.Gather, s string, want answer) {
	t.Helper()
	if got := takeOf(g, s); !got.same(want) {
		t.Errorf("Take(%s, %q) = %s, want %s", show(g), short(s), got, want)
	}
}

// checkAsWanted holds Take against the patterns, and tells which error it has.
func checkAsWanted(t *testing.T, g api.Gather, s string) api.Errno {
	t.Helper()
	want := wantTake(g, s)
	checkTake(t, g, s, want)
	return want.no
}

// P9.1: the codes of replies are those from 100 to 599.
func TestMayOfEveryCode(t *testing.T) {
	count := 0
	for code := -1200; code <= 12000; code++ {
		for _, l := range [][]string{{"a"}, {"a", "b"}, {"a", "b", "c"}} {
			if got, want := May(reply(code, l...)), code >= 100 && code <= 599; got != want {
				t.Errorf("May(%d, %q) = %t", code, l, got)
			} else if got {
				count++
				checkMay(t, reply(code, l...))
			}
		}
	}
	if count != 3*500 {
		t.Errorf("there are %d, want 1500", count)
	}
	for _, code := range noCodes {
		for n := range 22 {
			checkMayNot(t, reply(code, many(n)...))
		}
	}
}

// P9.1: a reply has from 1 to 20 lines.
func TestMayOfEveryCount(t *testing.T) {
	for n := range 64 {
		l := many(n)
		for _, code := range []int{100, 220, 599} {
			if is := checkReply(t, reply(code, l...)); is != (n >= 1 && n <= 20) {
				t.Errorf("May of %d lines is %t", n, is)
			}
			checkReply(t, reply(code, make([]string, n)...))
		}
	}
	checkMayNot(t, api.Reply{Code: 220})
	checkMayNot(t, api.Reply{Code: 220, Lines: []string{}})
	checkMayNot(t, reply(220, make([]string, 1<<16)...))
}

// inEachReply calls back with replies of 1, 2, 3, 4 and 20 lines of which one, at each place, is the given one.
func inEachReply(s string, f func(l []string, at int)) {
	for _, n := range []int{1, 2, 3, 4, 20} {
		for at := range n {
			f(put(many(n), at, s), at)
		}
	}
}

// P9.1: no line has more than 500 bytes, at whichever place.
func TestMayOfLongLines(t *testing.T) {
	for _, n := range []int{499, 500, 501, 502, 504, 505, 512, 1 << 16} {
		for _, s := range []string{strings.Repeat("x", n), strings.Repeat(" ", n), strings.Repeat("~", n)} {
			inEachReply(s, func(l []string, at int) {
				if is := checkReply(t, reply(220, l...)); is != (n <= 500) {
					t.Errorf("May with %d bytes in line %d of %d is %t", n, at, len(l), is)
				}
			})
		}
	}
	long := strings.Repeat("x", 500)
	checkMay(t, reply(220, slices.Repeat([]string{long}, 20)...))
}

// P9.1: no line may have a byte that is not Clean, at whichever place.
func TestMayOfLinesNotClean(t *testing.T) {
	for _, b := range strangeBytes {
		for _, s := range []string{b, b + "x", "x" + b, "a" + b + "b", " " + b, b + " ", strings.Repeat("x", 500-len(b)) + b} {
			inEachReply(s, func(l []string, at int) { checkMayNot(t, reply(220, l...)) })
		}
	}
	everyByte(func(b string) {
		for _, s := range []string{b, "a" + b, b + "a", "a b" + b + " c"} {
			inEachReply(s, func(l []string, at int) {
				if is := checkReply(t, reply(220, l...)); is != strings.Contains(printed, b) {
					t.Errorf("May with %q in line %d of %d is %t", s, at, len(l), is)
				}
			})
		}
	})
	inEachReply(printed, func(l []string, at int) { checkMay(t, reply(220, l...)) })
}

// P9.1: a line that ends a reply of Code may stand first and last alone.
func TestMayOfLinesThatEnd(t *testing.T) {
	for _, code := range []int{100, 199, 211, 220, 500, 599} {
		number := strconv.Itoa(code)
		for _, s := range []string{number, number + " ", number + "  ", number + " x", number + " a b", number + " " + number, number + " -", number + " ~", number + " " + strings.Repeat("x", 496)} {
			inEachReply(s, func(l []string, at int) {
				if is := checkReply(t, reply(code, l...)); is != (at == 0 || at == len(l)-1) {
					t.Errorf("May with %q in line %d of %d of %d is %t", short(s), at, len(l), code, is)
				}
			})
			checkMay(t, reply(code, s, s))
			checkMayNot(t, reply(code, s, s, s))
		}
	}
}

// P9.1: what looks like such a line, and is none, may stand at each place.
func TestMayOfLinesThatDoNotEnd(t *testing.T) {
	others := []string{
		"", " ", "-", "2", "22", "22 ", "22 0", "2 20", " 220", " 220 ", " 220 x", "  220 x", "-220 x", "+220 x", "0220 x", "00220", "x220 x", "220x", "220x y", "220-", "220-x", "220- x", "220-x y", "2200", "2200 x", "2201 x", "220.", "220. x", "220_", "220/ x", "220! x", "220~", "220220", "220220 x",
		"221", "221 ", "221 x", "219 x", "210 x", "230 x", "120 x", "320 x", "200 x", "20 x", "2 x", "0 x", "100 x", "599 x", "099 x", "600 x", "022 x", "x", "x 220", "x 220 x", "211-a", "211 a",
	}
	for _, s := range others {
		inEachReply(s, func(l []string, at int) { checkMay(t, reply(220, l...)) })
		checkMay(t, reply(220, slices.Repeat([]string{s}, 20)...))
	}
	everyByte(func(b string) {
		if b == " " || !strings.Contains(printed, b) {
			return
		}
		for _, s := range []string{"220" + b, "220" + b + " x", "220" + b + "x", b + "220", b + "220 x"} {
			inEachReply(s, func(l []string, at int) { checkMay(t, reply(220, l...)) })
		}
	})
}

// P9.1: of every code the line between two others that is its number ends it, and that of another one does not.
func TestMayOfNumbersBetween(t *testing.T) {
	for code := 100; code <= 599; code++ {
		number := strconv.Itoa(code)
		checkMayNot(t, reply(code, "a", number, "c"))
		checkMayNot(t, reply(code, "a", number+" b", "c"))
		checkMay(t, reply(code, "a", number+"-b", "c"))
		for _, other := range []int{code - 1, code + 1, code - 10, code + 10, code - 100, code + 100, code * 10, code / 10, -code} {
			checkMay(t, reply(code, "a", strconv.Itoa(other), "c"))
			checkMay(t, reply(code, "a", strconv.Itoa(other)+" b", "c"))
		}
	}
}

// P9.1: how replies are printed, written by hand.
func TestPrint(t *testing.T) {
	for _, x := range []struct {
		r    api.Reply
		want []string
	}{
		{reply(220, "hi"), []string{"220 hi"}},
		{reply(220, ""), []string{"220 "}},
		{reply(220, " "), []string{"220  "}},
		{reply(220, "-"), []string{"220 -"}},
		{reply(220, "220"), []string{"220 220"}},
		{reply(220, "220 x"), []string{"220 220 x"}},
		{reply(100, "a b"), []string{"100 a b"}},
		{reply(599, "~"), []string{"599 ~"}},
		{reply(211, "a", "b"), []string{"211-a", "211 b"}},
		{reply(211, "", ""), []string{"211-", "211 "}},
		{reply(211, "a", ""), []string{"211-a", "211 "}},
		{reply(211, "", "b"), []string{"211-", "211 b"}},
		{reply(211, "211", "211"), []string{"211-211", "211 211"}},
		{reply(211, "211 a", "211 b"), []string{"211-211 a", "211 211 b"}},
		{reply(220, "a", "b", "c"), []string{"220-a", "b", "220 c"}},
		{reply(211, "", "", ""), []string{"211-", "", "211 "}},
		{reply(211, "", "b", "c"), []string{"211-", "b", "211 c"}},
		{reply(211, "a", "", "c"), []string{"211-a", "", "211 c"}},
		{reply(211, "a", "b", ""), []string{"211-a", "b", "211 "}},
		{reply(211, "a", "220 b", ""), []string{"211-a", "220 b", "211 "}},
		{reply(211, "a", "211-b", "c"), []string{"211-a", "211-b", "211 c"}},
		{reply(211, "a", " 211 b", "c"), []string{"211-a", " 211 b", "211 c"}},
		{reply(211, "-", "-", "-"), []string{"211--", "-", "211 -"}},
		{reply(211, "a", "b", "c", "d", "e"), []string{"211-a", "b", "c", "d", "211 e"}},
	} {
		checkPrint(t, x.r, x.want, true)
		checkReply(t, x.r)
	}
	for _, r := range []api.Reply{
		{}, reply(220), reply(99, "a"), reply(600, "a"), reply(0, "a"), reply(-220, "a"), reply(220, "\t"), reply(220, "a\r\n"), reply(220, "a", "\n"), reply(211, "a", "211 b", "c"), reply(211, "a", "211", "c"), reply(211, "a", "b", "211 ", "d"), reply(220, many(21)...), reply(220, strings.Repeat("x", 501)),
	} {
		checkMayNot(t, r)
	}
}

// P9.1: how many lines are printed, with empty ones at each place.
func TestPrintOfEveryCount(t *testing.T) {
	for n := 1; n <= 20; n++ {
		l := many(n)
		for at := range n {
			checkMay(t, reply(220, put(l, at, "")...))
			checkMay(t, reply(220, put(make([]string, n), at, "x")...))
		}
		got, is := Print(reply(220, l...))
		if len(got) != n || !is {
			t.Errorf("Print of %d lines: %q, %t", n, got, is)
		}
	}
}

func checkSame(t *testing.T, a, b api.Reply, want bool) {
	t.Helper()
	if x, y := Same(a, b), Same(b, a); x != want || y != want {
		t.Errorf("Same(%s, %s) = %t, and the other way %t, want %t", short(show(a)), short(show(b)), x, y, want)
	}
}

// P9.1: two are the same, if Code and all Lines are, also of such as may not be.
func TestSame(t *testing.T) {
	checkSame(t, api.Reply{}, api.Reply{}, true)
	checkSame(t, api.Reply{Code: 220}, api.Reply{Code: 220, Lines: []string{}}, true)
	checkSame(t, reply(220, "a"), api.Reply{}, false)
	checkSame(t, reply(220, ""), reply(220), false)
	checkSame(t, reply(220, "ab"), reply(220, "a", "b"), false)
	checkSame(t, reply(220, "a", ""), reply(220, "", "a"), false)
	checkSame(t, reply(220, "a", "b"), reply(220, "b", "a"), false)
	checkSame(t, reply(220, "a"), reply(220, "A"), false)
	checkSame(t, reply(220, "a"), reply(220, "a "), false)
	checkSame(t, reply(220, "\xff"), reply(220, "\xfe"), false)
	checkSame(t, reply(220, "\xff"), reply(220, "\ufffd"), false)
	checkSame(t, reply(-1, "\xff"), reply(-1, "\xff"), true)
	codes := append([]int{100, 220, 221, 599}, noCodes...)
	for i, a := range codes {
		for j, b := range codes {
			for n := range 22 {
				checkSame(t, reply(a, many(n)...), reply(b, many(n)...), i == j)
			}
		}
	}
}

// P9.1: of replies that differ in how many lines they have, or in one byte of one, or have that more or less, none are the same.
func TestSameOfLines(t *testing.T) {
	for n := range 22 {
		for m := range 22 {
			checkSame(t, reply(220, many(n)...), reply(220, many(m)...), n == m)
			checkSame(t, reply(220, make([]string, n)...), reply(220, make([]string, m)...), n == m)
		}
		l := many(n)
		for at, s := range l {
			for i := range s {
				other := s[:i] + string([]byte{s[i] ^ 1}) + s[i+1:]
				for _, x := range []string{other, s[:i] + s[i+1:], s[:i] + "x" + s[i:]} {
					checkSame(t, reply(220, l...), reply(220, put(l, at, x)...), false)
				}
			}
			checkSame(t, reply(220, l...), reply(220, put(l, at, s+" ")...), false)
			checkSame(t, reply(220, l...), reply(220, put(l, at, "")...), false)
			checkSame(t, reply(220, l...), reply(220, put(l, at, strings.Clone(s))...), true)
		}
	}
}

// closed are gathers that are not Open; what else they have is nothing, whatever it is.
func closed() []api.Gather {
	return []api.Gather{nothing, {Code: 220}, {Lines: []string{"a"}}, {Code: 220, Lines: []string{"a", "b"}}, {Code: 220, Lines: many(19)}, {Code: 226, Lines: many(30)}, {Code: -1, Lines: []string{"\x00"}}}
}

func checkFirst(t *testing.T, s string, want answer) {
	t.Helper()
	for _, g := range closed() {
		checkTake(t, g, s, want)
		checkAsWanted(t, g, s)
	}
}

// P9.2: the line that a reply begins with, and may end with, written by hand.
func TestTakeFirst(t *testing.T) {
	for _, x := range []struct {
		s    string
		code int
		text string
	}{
		{"226", 226, ""}, {"226 ", 226, ""}, {"226  ", 226, " "}, {"226 a", 226, "a"}, {"226  a", 226, " a"}, {"226 a ", 226, "a "}, {"226 a b", 226, "a b"}, {"226 -", 226, "-"}, {"226 226", 226, "226"}, {"226 226 x", 226, "226 x"}, {"226 226-x", 226, "226-x"},
		{"100", 100, ""}, {"100 a", 100, "a"}, {"599", 599, ""}, {"599 a", 599, "a"}, {"101 a", 101, "a"}, {"598 a", 598, "a"}, {"220 ~", 220, "~"}, {"220 " + printed, 220, printed},
	} {
		checkFirst(t, x.s, ended(reply(x.code, x.text)))
	}
	for _, x := range []struct {
		s    string
		code int
		text string
	}{
		{"220-", 220, ""}, {"220-a", 220, "a"}, {"220- ", 220, " "}, {"220- a", 220, " a"}, {"220--", 220, "-"}, {"220--a", 220, "-a"}, {"220-220", 220, "220"}, {"220-220 a", 220, "220 a"}, {"220-220-a", 220, "220-a"}, {"100-a", 100, "a"}, {"599-a", 599, "a"}, {"100-", 100, ""}, {"599-", 599, ""}, {"220-" + printed, 220, printed},
	} {
		checkFirst(t, x.s, goesOn(open(x.code, x.text)))
	}
	for _, s := range []string{
		"", " ", "-", "2", "22", "2 ", "22 ", "22-", "22 0", "2 20", "2-20", "-22", "+22", "-220", "+220", "+220 a", " 220", " 220 a", "0220", "0220 a", "220x", "220x a", "2200", "2200 a", "2201", "220.", "220. a", "220_a", "220,a", "220!", "220~", "220/", "220:a", "22O a", "x", "xxx", "xxx a", "xxx-a", "abc",
		"099", "099 a", "099-a", "099-", "000", "000 a", "010 a", "001-a", "99", "99 a", "600", "600 a", "600-a", "600 ", "601 a", "700 a", "999", "999 a", "999-a", "1000 a", "1e2 a", "0x1 a", "1_0 a", "2.2 a", "-12 a", "+12 a", "+99 a", "-99",
	} {
		checkFirst(t, s, failed(api.ErrForm))
	}
}

// P9.2: every number of up to four digits, with noughts ahead and without, alone and with what may stand behind.
func TestTakeFirstOfEveryNumber(t *testing.T) {
	count := 0
	for n := range 10000 {
		for _, form := range []string{"%d", "%02d", "%03d", "%04d", "%d5"} {
			s := fmt.Sprintf(form, n)
			for _, rest := range []string{"", " ", "-", " a", "-a", "a", "_a"} {
				if checkAsWanted(t, nothing, s+rest) == api.OK && form == "%d" {
					count++
				}
			}
		}
	}
	if count != 5*500 {
		t.Errorf("%d lines were taken, want 2500", count)
	}
}

// P9.2: each byte at each place of the digits, of what stands behind them, and of the line.
func TestTakeFirstOfEveryByte(t *testing.T) {
	for _, s := range []string{"220", "220 ", "220-", "220 ab", "220-ab", "100 a", "599-a", "099 a", "600-a", "22", "2200"} {
		for at := range len(s) + 1 {
			everyByte(func(b string) {
				for _, g := range closed() {
					checkAsWanted(t, g, s[:at]+b+s[at:])
					if at < len(s) {
						checkAsWanted(t, g, s[:at]+b+s[at+1:])
					}
				}
			})
		}
	}
	for at := range 3 {
		everyByte(func(b string) {
			if b >= "0" && b <= "9" {
				return
			}
			for _, rest := range []string{"", " ", " a", "-", "-a"} {
				checkFirst(t, "222"[:at]+b+"222"[at+1:]+rest, failed(api.ErrForm))
			}
		})
	}
	everyByte(func(b string) {
		if b != " " && b != "-" {
			checkFirst(t, "220"+b, failed(api.ErrForm))
			checkFirst(t, "220"+b+" a", failed(api.ErrForm))
			checkFirst(t, "220"+b+"-a", failed(api.ErrForm))
		}
	})
}

// opens are gathers that are Open, of several codes and counts of lines, also of such as no line leads to.
func opens() []api.Gather {
	var all []api.Gather
	for _, code := range []int{100, 211, 220, 599, 0, -1, -220, 7, 99, 600, 1220, math.MaxInt, math.MinInt} {
		for _, n := range []int{0, 1, 2, 17, 18, 19, 20, 21, 40} {
			all = append(all, open(code, many(n)...))
		}
	}
	return append(all, open(220, "\x00"), open(220, "220 x", "220"), open(220, strings.Repeat("x", 600)))
}

// P9.2: a line has at most 504 bytes, and is Clean, whether the gather is Open or not, and whatever else it has.
func TestTakeOfLongLines(t *testing.T) {
	for _, g := range append(opens(), closed()...) {
		for _, n := range []int{499, 500, 501, 502, 503, 504, 505, 506, 512, 1 << 16} {
			for _, start := range []string{"", "220", "220 ", "220-", "211 ", "x"} {
				s := start + strings.Repeat("x", n-len(start))
				no := checkAsWanted(t, g, s)
				if n > 504 && no != api.ErrForm {
					t.Errorf("Take(%s, %d bytes): %d", show(g), n, no)
				}
			}
		}
	}
	x500 := strings.Repeat("x", 500)
	checkFirst(t, "220 "+x500, ended(reply(220, x500)))
	checkFirst(t, "220-"+x500, goesOn(open(220, x500)))
	checkFirst(t, "220 "+x500+"x", failed(api.ErrForm))
	checkFirst(t, "220-"+x500+"x", failed(api.ErrForm))
	g := open(220, "a")
	checkTake(t, g, "220 "+x500, ended(reply(220, "a", x500)))
	checkTake(t, g, "220 "+x500+"x", failed(api.ErrForm))
	checkTake(t, g, "xxxx"+x500, goesOn(open(220, "a", "xxxx"+x500)))
	checkTake(t, g, "xxxxx"+x500, failed(api.ErrForm))
}

// P9.2: the same of lines that are not Clean, at each place of them.
func TestTakeOfLinesNotClean(t *testing.T) {
	for _, g := range append(opens(), closed()...) {
		for _, b := range strangeBytes {
			for _, s := range []string{b, b + "220 a", "220" + b, "220 " + b, "220-" + b, "220 a" + b, "220-a" + b + "b", "a" + b, "22" + b + "0 a", "220 a\r" + b} {
				checkTake(t, g, s, failed(api.ErrForm))
			}
		}
		everyByte(func(b string) {
			for _, s := range []string{b, "a" + b, "220 " + b, "220 a" + b + "c", "220" + b} {
				no := checkAsWanted(t, g, s)
				if !strings.Contains(printed, b) && no != api.ErrForm {
					t.Errorf("Take(%s, %q): %d", show(g), s, no)
				}
			}
		})
	}
}

// P9.2: further lines, written by hand: those that end a reply of its code, and those that do not.
func TestTakeNext(t *testing.T) {
	g := open(220, "a", "b")
	for _, x := range []struct{ s, text string }{
		{"220", ""}, {"220 ", ""}, {"220  ", " "}, {"220 c", "c"}, {"220  c", " c"}, {"220 c ", "c "}, {"220 c d", "c d"}, {"220 -", "-"}, {"220 -c", "-c"}, {"220 220", "220"}, {"220 220 c", "220 c"}, {"220 " + printed, printed},
	} {
		checkTake(t, g, x.s, ended(reply(220, "a", "b", x.text)))
	}
	for _, s := range []string{
		"", " ", "  ", "-", "c", "c d", "2", "22", "22 ", "22 0", "220c", "220c d", "220-", "220-c", "220- c", "220--", "2200", "2200 c", "220. c", "0220", "0220 c", " 220", " 220 c", "-220 c", "+220 c", "221", "221 c", "221-c", "219 c", "120 c", "320 c", "230 c", "226", "599 c", "100 c", "099 c", "600 c", "000", "x220 c", printed,
	} {
		checkTake(t, g, s, goesOn(open(220, "a", "b", s)))
	}
}

// P9.2: each byte behind, ahead of and within the number.
func TestTakeNextOfEveryByte(t *testing.T) {
	for _, g := range []api.Gather{open(220), open(220, "a"), open(100, many(18)...), open(599, many(19)...), open(0, "a"), open(-22, "a"), open(1220, "a"), open(99, many(2)...)} {
		number := strconv.Itoa(g.Code)
		for _, s := range []string{number, number + " ", number + "-", number + " ab", "ab"} {
			for at := range len(s) + 1 {
				everyByte(func(b string) {
					checkAsWanted(t, g, s[:at]+b+s[at:])
				})
				if at < len(s) {
					checkAsWanted(t, g, s[:at]+s[at+1:])
				}
			}
		}
	}
}

// P9.2: with 19 lines or more a further one is too much, but where it ends the reply.
func TestTakeNextOfEveryCount(t *testing.T) {
	for n := range 64 {
		g := open(220, many(n)...)
		for _, s := range []string{"", "x", "220-x", "220x", "221 x", "2200", " 220 x", strings.Repeat("x", 504)} {
			want := goesOn(open(220, lines(many(n), s)...))
			if n >= 19 {
				want = failed(api.ErrOver)
			}
			checkTake(t, g, s, want)
		}
		checkTake(t, g, "220", ended(reply(220, lines(many(n), "")...)))
		checkTake(t, g, "220 ", ended(reply(220, lines(many(n), "")...)))
		checkTake(t, g, "220 x", ended(reply(220, lines(many(n), "x")...)))
	}
	for _, n := range []int{18, 19, 20} {
		g := open(220, make([]string, n)...)
		if got := takeOf(g, "x").no; got != [3]api.Errno{api.OK, api.ErrOver, api.ErrOver}[n-18] {
			t.Errorf("with %d lines: %d", n, got)
		}
		if a := takeOf(g, "220 x"); !a.is || len(a.r.Lines) != n+1 {
			t.Errorf("with %d lines: %s", n, a)
		}
	}
}

// P9.2: of a gather whose code is none of a reply, its number ends it no less, and the reply is one that may not be.
func TestTakeNextOfNoCodes(t *testing.T) {
	for _, code := range noCodes {
		number := strconv.Itoa(code)
		g := open(code, "a")
		checkTake(t, g, number, ended(reply(code, "a", "")))
		checkTake(t, g, number+" ", ended(reply(code, "a", "")))
		checkTake(t, g, number+" b", ended(reply(code, "a", "b")))
		for _, s := range []string{"", "b", number + "-b", number + "0 b", "0" + number + " b", " " + number, "+" + number + " b", "220 b", "220"} {
			checkTake(t, g, s, goesOn(open(code, "a", s)))
		}
		if _, r, _, _ := Take(g, number); May(r) {
			t.Errorf("May of a reply of %d", code)
		}
	}
	checkTake(t, open(-5), "-5 x", ended(reply(-5, "x")))
	checkTake(t, open(-5), "-5-x", goesOn(open(-5, "-5-x")))
	checkTake(t, open(0), "000 x", goesOn(open(0, "000 x")))
	checkTake(t, open(22), "022 x", goesOn(open(22, "022 x")))
}

// R2: that a line is of another form is told ahead of all; that it ends the reply, ahead of that there are too many.
func TestWhichIsFirst(t *testing.T) {
	for _, n := range []int{18, 19, 20, 40} {
		g := open(220, many(n)...)
		for _, s := range []string{"\x7f", "x\r", "220 \x00", "220\n", strings.Repeat("x", 505), "220 " + strings.Repeat("x", 501), strings.Repeat("\x00", 1000)} {
			checkTake(t, g, s, failed(api.ErrForm))
		}
	}
	over := open(220, many(19)...)
	checkTake(t, over, "x", failed(api.ErrOver))
	checkTake(t, over, "220 x", ended(reply(220, lines(many(19), "x")...)))
	// A gather that is not Open has no lines, so that none are too many.
	checkTake(t, api.Gather{Code: 220, Lines: many(40)}, "220-x", goesOn(open(220, "x")))
	checkTake(t, api.Gather{Code: 220, Lines: many(40)}, "x", failed(api.ErrForm))
}

// R4: beside an error all else is noughts, and so is the reply beside false, and the gather beside a reply.
func TestNoughts(t *testing.T) {
	texts := []string{"", "x", "220", "220 ", "220 x", "220-", "220-x", "099 x", "600", "221 x", "22", "\x7f", "220 \x00", strings.Repeat("x", 504), strings.Repeat("x", 505), "0", "0 x", "-1 x"}
	seen := map[api.Errno]int{}
	for _, g := range append(opens(), closed()...) {
		for _, s := range texts {
			a := takeOf(g, s)
			noGather := a.g.Code == 0 && len(a.g.Lines) == 0 && !a.g.Open
			noReply := a.r.Code == 0 && len(a.r.Lines) == 0
			switch {
			case a.no != api.OK && (!noGather || !noReply || a.is), a.is && (!noGather || len(a.r.Lines) == 0), a.no == api.OK && !a.is && (!a.g.Open || !noReply):
				t.Errorf("Take(%s, %q) = %s", show(g), short(s), a)
			}
			seen[a.no]++
		}
	}
	if len(seen) != 3 || seen[api.OK] == 0 || seen[api.ErrForm] == 0 || seen[api.ErrOver] == 0 {
		t.Errorf("the errors are %v", seen)
	}
}

// roomy are lines with room behind them in which others stand, to be seen if somebody writes there.
func roomy(l []string) (with, all []string) {
	all = append(slices.Clone(l), "behind", "behind that")
	return all[:len(l)], all
}

// R3: what is handed in stays as it was, also behind the end of its lines.
func TestHandedInStays(t *testing.T) {
	for n := range 22 {
		l, all := roomy(many(n))
		was := slices.Clone(all)
		for _, code := range []int{220, 99} {
			May(reply(code, l...))
			Print(reply(code, l...))
			Same(reply(code, l...), reply(code, l...))
			for _, is := range []bool{false, true} {
				for _, s := range []string{"x", "220", "220 x", "220-x", "221 x", "\x00", ""} {
					g := api.Gather{Code: code, Lines: l, Open: is}
					Take(g, s)
					if len(g.Lines) != n || g.Code != code || g.Open != is || !slices.Equal(all, was) {
						t.Fatalf("of %d lines, behind %q: %q, was %q", n, s, all, was)
					}
				}
			}
		}
	}
}

// overwrite changes each of some lines, and what may stand behind them.
func overwrite(l []string) {
	whole := l[:cap(l)]
	for i := range whole {
		whole[i] = "written over"
	}
}

// R3: what is printed shares no memory with the reply, nor with what was printed of it before.
func TestPrintSharesNothing(t *testing.T) {
	for n := 1; n <= 20; n++ {
		l, all := roomy(many(n))
		was := slices.Clone(all)
		a, _ := Print(reply(220, l...))
		b, _ := Print(reply(220, l...))
		want := slices.Clone(b)
		overwrite(a)
		if !slices.Equal(b, want) || !slices.Equal(all, was) {
			t.Errorf("with %d lines: %q, and %q is left", n, b, all)
		}
		overwrite(all)
		if !slices.Equal(b, want) {
			t.Errorf("with %d lines: %q, want %q", n, b, want)
		}
	}
}

// R3, rule 7: neither the gather nor the reply that is told shares its lines with the gather that was handed in.
func TestTakeSharesNothing(t *testing.T) {
	for n := range 19 {
		for _, s := range []string{"x", "220 x"} {
			l, all := roomy(many(n))
			was := slices.Clone(all)
			g := open(220, l...)
			a, b := takeOf(g, s), takeOf(g, s)
			want := b.String()
			overwrite(a.g.Lines)
			overwrite(a.r.Lines)
			if b.String() != want || !slices.Equal(all, was) {
				t.Errorf("with %d lines, behind %q: %s, and %q is left", n, s, b, all)
			}
			overwrite(all)
			if b.String() != want {
				t.Errorf("with %d lines, behind %q: %s, want %s", n, s, b, want)
			}
		}
	}
}

// R3: two lines taken from one gather, one behind the other, hold apart, also if that gather was told itself.
func TestTwoFromOneHoldApart(t *testing.T) {
	g := takeOf(nothing, "220-a").g
	for n := 1; n < 19; n++ {
		x, y := takeOf(g, "x"), takeOf(g, "y")
		endX, endY := takeOf(g, "220 x"), takeOf(g, "220 y")
		for _, pair := range []struct {
			got  answer
			want answer
		}{
			{x, goesOn(open(220, lines(g.Lines, "x")...))}, {y, goesOn(open(220, lines(g.Lines, "y")...))}, {endX, ended(reply(220, lines(g.Lines, "x")...))}, {endY, ended(reply(220, lines(g.Lines, "y")...))},
		} {
			if !pair.got.same(pair.want) {
				t.Errorf("with %d lines: %s, want %s", n, pair.got, pair.want)
			}
		}
		overwrite(x.g.Lines)
		overwrite(endX.r.Lines)
		if !y.same(goesOn(open(220, lines(g.Lines, "y")...))) || !endY.same(ended(reply(220, lines(g.Lines, "y")...))) {
			t.Errorf("with %d lines: %s, %s", n, y, endY)
		}
		g = y.g
	}
}

// takeAll takes lines one by one, till one is the last of a reply, or has an error, and tells how many it took.
func takeAll(l ...string) (answer, int) {
	a := answer{}
	for i, s := range l {
		if a = takeOf(a.g, s); a.is || a.no != api.OK {
			return a, i + 1
		}
	}
	return a, len(l)
}

// P9.2: lines one behind the other, with the chapter's example first.
func TestTakeLineByLine(t *testing.T) {
	for _, x := range []struct {
		l    []string
		want answer
	}{
		{[]string{"220-a", "b", "220 c"}, ended(reply(220, "a", "b", "c"))},
		{[]string{"220-", "220"}, ended(reply(220, "", ""))},
		{[]string{"220-", "", "220 "}, ended(reply(220, "", "", ""))},
		{[]string{"220-a", "220-b", "220-c", "220 d"}, ended(reply(220, "a", "220-b", "220-c", "d"))},
		{[]string{"211-a", " b", "220 c", "211"}, ended(reply(211, "a", " b", "220 c", ""))},
		{[]string{"211-211 a", "211x", "211 b"}, ended(reply(211, "211 a", "211x", "b"))},
		{[]string{"220-a", "b"}, goesOn(open(220, "a", "b"))},
		{[]string{"220-a", "b", "\t"}, failed(api.ErrForm)},
		{lines([]string{"220-a"}, many(18)...), goesOn(open(220, lines([]string{"a"}, many(18)...)...))},
		{lines([]string{"220-a"}, many(19)...), failed(api.ErrOver)},
		{lines(lines([]string{"220-a"}, many(18)...), "220 z"), ended(reply(220, lines(lines([]string{"a"}, many(18)...), "z")...))},
		{lines(lines([]string{"220-a"}, many(18)...), "220-z"), failed(api.ErrOver)},
	} {
		if got, n := takeAll(x.l...); !got.same(x.want) || n != len(x.l) {
			t.Errorf("Take of %q, one by one = %s after %d, want %s", x.l, got, n, x.want)
		}
	}
	if !Same(takeOf(takeOf(takeOf(nothing, "220-a").g, "b").g, "220 c").r, reply(220, "a", "b", "c")) {
		t.Error("the chapter's example is another reply")
	}
}

// From nothing on, replies that end are of a code that may be, and have at most 20 lines; what is behind one begins anew.
func TestTakeManyReplies(t *testing.T) {
	g := nothing
	var got []api.Reply
	for _, s := range []string{"220-a", "b", "220 c", "331 d", "230-", "230", "226", "500-x", "221 y", "500 "} {
		to, r, is, no := Take(g, s)
		if no != api.OK {
			t.Fatal(s, no)
		}
		if is {
			got = append(got, r)
		}
		g = to
	}
	want := []api.Reply{reply(220, "a", "b", "c"), reply(331, "d"), reply(230, "", ""), reply(226, ""), reply(500, "x", "221 y", "")}
	if show(got) != show(want) {
		t.Errorf("%s, want %s", show(got), show(want))
	}
}

// P9.3: what is printed of all replies of up to four of some lines is taken as the same reply, at the last line.
func TestPrintedIsTaken(t *testing.T) {
	words := []string{"", " ", "a", "-", "220", "220 ", "220 b", "220-b", "221 b", "2200 b", " 220 b", "\x7f"}
	may, not := 0, 0
	var all func(l []string, left int)
	all = func(l []string, left int) {
		if checkReply(t, reply(220, l...)) {
			may++
		} else {
			not++
		}
		for i := 0; left > 0 && i < len(words); i++ {
			all(lines(l, words[i]), left-1)
		}
	}
	all(nil, 4)
	if may == 0 || not == 0 {
		t.Errorf("%d may be, %d may not", may, not)
	}
}

// P9.3: the same of every code, of every count of lines, and of the longest ones.
func TestPrintedIsTakenOfAllCodes(t *testing.T) {
	for code := 100; code <= 599; code++ {
		for n := 1; n <= 20; n++ {
			l := many(n)
			l[0], l[n-1] = strconv.Itoa(code), strconv.Itoa(code)+" x"
			checkPrintedIsTaken(t, reply(code, l...))
			checkPrintedIsTaken(t, reply(code, make([]string, n)...))
		}
	}
	for n := 1; n <= 20; n++ {
		checkMay(t, reply(220, slices.Repeat([]string{strings.Repeat("220-", 125)}, n)...))
	}
}

// P9.2: all short orders of a few lines, one behind the other, against the patterns.
func TestTakeInEveryOrder(t *testing.T) {
	words := []string{"", "a", "220", "220 a", "220-a", "220a", "221 a", "221-a", "099 a", "\r"}
	var all func(g api.Gather, left int)
	all = func(g api.Gather, left int) {
		for _, s := range words {
			checkAsWanted(t, g, s)
			if to, _, _, _ := Take(g, s); left > 1 {
				all(to, left-1)
			}
		}
	}
	all(nothing, 5)
}

// P9.1 to P9.3: replies, gathers and lines by chance, from a seed.
func TestByChance(t *testing.T) {
	chance := rand.New(rand.NewSource(9))
	words := append([]string{"220", "220", "220 ", "220-", "221", "-", " ", " ", "a", "b", "0", "99", "600", strings.Repeat("x", 249)}, strangeBytes[:4]...)
	text := func() string {
		var s string
		for range chance.Intn(5) {
			s += words[chance.Intn(len(words))]
		}
		return s
	}
	codes := []int{220, 220, 220, 221, 99, 600, 0, -220}
	for range 1 << 15 {
		var l []string
		for range chance.Intn(23) >> chance.Intn(4) {
			l = append(l, text())
		}
		code := codes[chance.Intn(len(codes))]
		checkReply(t, reply(code, l...))
		checkAsWanted(t, api.Gather{Code: code, Lines: l, Open: chance.Intn(3) > 0}, text())
	}
}

// R5: what was asked ahead changes nothing.
func TestAfterOthers(t *testing.T) {
	texts := []string{"220-a", "b", "220 c", "226", "x\r", "099 a", "", "220-"}
	gathers := []api.Gather{nothing, open(220, "a"), open(220, many(19)...), open(226), {Code: 220, Lines: many(3)}}
	for _, g := range gathers {
		for _, a := range texts {
			for _, h := range gathers {
				for _, b := range texts {
					checkAsWanted(t, g, a)
					checkAsWanted(t, h, b)
					checkAsWanted(t, g, a)
				}
			}
		}
	}
}

// P1: texts, replies and gathers of many bytes and lines are answered too.
func TestLongTexts(t *testing.T) {
	lots := make([]string, 1<<18)
	for _, s := range []string{strings.Repeat(" ", 1<<20), strings.Repeat("2", 1<<20), "220" + strings.Repeat(" ", 1<<20), "220-" + strings.Repeat("x", 1<<20), strings.Repeat("\x00", 1<<20), strings.Repeat("220 ", 1<<18)} {
		for _, g := range []api.Gather{nothing, open(220, "a"), open(220, s), open(220, lots...), {Lines: lots}} {
			checkTake(t, g, s, failed(api.ErrForm))
		}
		checkMayNot(t, reply(220, s))
		checkMayNot(t, reply(220, "a", s, "c"))
	}
	checkMayNot(t, reply(220, lots...))
	checkSame(t, reply(220, lots...), reply(220, slices.Clone(lots)...), true)
	checkSame(t, reply(220, lots...), reply(220, put(lots, 1<<18-1, "x")...), false)
	checkTake(t, open(220, lots...), "x", failed(api.ErrOver))
	checkTake(t, nothing, "220 x", ended(reply(220, "x")))
	if a := takeOf(open(220, lots...), "220 x"); !a.is || len(a.r.Lines) != 1<<18+1 || a.r.Lines[1<<18] != "x" {
		t.Error(len(a.r.Lines), a.is)
	}
}

// What was taken is a gather with more: its code and lines are the reply's, where the line ended that, and noughts where it has an error.
func TestTaken(t *testing.T) {
	for _, x := range []struct {
		g     api.Gather
		s     string
		code  int
		lines []string
		ended bool
		no    api.Errno
	}{
		{nothing, "220 a", 220, []string{"a"}, true, api.OK},
		{nothing, "220-a", 220, []string{"a"}, false, api.OK},
		{open(220, "a"), "b", 220, []string{"a", "b"}, false, api.OK},
		{open(220, "a"), "220 b", 220, []string{"a", "b"}, true, api.OK},
		{open(220, "a"), "\x00", 0, nil, false, api.ErrForm},
		{nothing, "x", 0, nil, false, api.ErrForm},
		{open(220, many(19)...), "x", 0, nil, false, api.ErrOver},
	} {
		got, no := take(x.g, x.s)
		if got.Code != x.code || !slices.Equal(got.Lines, x.lines) || got.ended != x.ended || no != x.no {
			t.Errorf("take(%s, %q) = %s, %d", show(x.g), x.s, show(got), no)
		}
	}
}
