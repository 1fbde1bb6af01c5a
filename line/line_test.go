package line

import (
	"bytes"
	"fmt"
	"math"
	"regexp"
	"slices"
	"strings"
	"testing"

	"wharfinger/api"
)

// nothing is a framer of which nothing has come.
var nothing api.Framer

func framer(b string, cr, skip bool) api.Framer {
	return api.Framer{B: []byte(b), Cr: cr, Skip: skip}
}

// come, waits and skips are framers of which just that is so: bytes have come, a 13 waits, a line is left out.
func come(b string) api.Framer  { return framer(b, false, false) }
func waits(b string) api.Framer { return framer(b, true, false) }

var skips, skipsAndWaits = framer("", false, true), framer("", true, true)

// over is a line that was too long.
var over = api.Line{Over: true}

func text(s string) api.Line { return api.Line{Text: s} }

func texts(of ...string) []api.Line {
	var l []api.Line
	for _, s := range of {
		l = append(l, text(s))
	}
	return l
}

// show is a framer as a text, and as something to hold against another one without Same.
func show(f api.Framer) string {
	return fmt.Sprintf("{%q cr:%t skip:%t}", f.B, f.Cr, f.Skip)
}

// feedParts feeds one part after the other, from where the one ahead led to.
func feedParts(f api.Framer, most int, lf bool, parts ...string) (api.Framer, []api.Line) {
	var all []api.Line
	for _, part := range parts {
		to, lines := Feed(f, []byte(part), most, lf)
		f, all = to, append(all, lines...)
	}
	return f, all
}

func checkParts(t *testing.T, f api.Framer, most int, lf bool, want api.Framer, lines []api.Line, parts ...string) {
	t.Helper()
	to, got := feedParts(f, most, lf, parts...)
	if show(to) != show(want) || !slices.Equal(got, lines) {
		t.Errorf("Feed(%s, %q, one after the other, %d, %t) = %s, %v, want %s, %v", show(f), parts, most, lf, show(to), got, show(want), lines)
	}
}

func checkFeed(t *testing.T, f api.Framer, b string, most int, lf bool, want api.Framer, lines []api.Line) {
	t.Helper()
	checkParts(t, f, most, lf, want, lines, b)
}

// ended and endedByTen are what ends a line where a 10 alone does not, and where it does.
var ended, endedByTen = regexp.MustCompile("\r\n"), regexp.MustCompile("\r\n|\n")

// putBehind is a line of which some has come, with more behind it, told by lengths and not byte by byte.
func putBehind(f api.Framer, more string, most int) (b string, skip bool) {
	switch {
	case f.Skip, more == "":
		return string(f.B), f.Skip
	case len(f.B)+len(more) > most:
		return "", true
	}
	return string(f.B) + more, false
}

// wantFeed is what Feed is to tell, by cutting all at what ends a line.
func wantFeed(f api.Framer, b string, most int, lf bool) (api.Framer, []api.Line) {
	if f.Cr {
		b = "\r" + b
	}
	at := ended
	if lf {
		at = endedByTen
	}
	pieces := at.Split(b, -1)
	last := len(pieces) - 1
	var lines []api.Line
	for _, piece := range pieces[:last] {
		b, skip := putBehind(f, piece, most)
		if skip {
			b = ""
		}
		lines, f = append(lines, api.Line{Text: b, Over: skip}), nothing
	}
	rest, cr := strings.CutSuffix(pieces[last], "\r")
	left, skip := putBehind(f, rest, most)
	return framer(left, cr, skip), lines
}

func checkAgainstCuts(t *testing.T, f api.Framer, b string, most int, lf bool) {
	t.Helper()
	want, lines := wantFeed(f, b, most, lf)
	checkFeed(t, f, b, most, lf, want, lines)
}

// inEveryOrder calls back with every text of up to so many of the given bytes.
func inEveryOrder(of string, most int, f func(b string)) {
	var all func(b string, left int)
	all = func(b string, left int) {
		f(b)
		for i := 0; left > 0 && i < len(of); i++ {
			all(b+of[i:i+1], left-1)
		}
	}
	all("", most)
}

// begins are framers of every sort: with B, Cr and Skip each set and not set.
func begins() []api.Framer {
	var all []api.Framer
	for _, b := range []string{"", "x", "xy", "xyz", "\r", "\n", "\r\n", "x\ny\r"} {
		for _, cr := range []bool{false, true} {
			all = append(all, framer(b, cr, false), framer(b, cr, true))
		}
	}
	return append(all, nothing, api.Framer{Cr: true}, api.Framer{Skip: true}, api.Framer{Cr: true, Skip: true})
}

// singly is a text cut into its bytes.
func singly(b string) []string {
	var ones []string
	for i := range len(b) {
		ones = append(ones, b[i:i+1])
	}
	return ones
}

// everyByte is each of the 256 bytes, once.
func everyByte() string {
	b := make([]byte, 256)
	for i := range b {
		b[i] = byte(i)
	}
	return string(b)
}

// P6.1, with the chapter's example first.
func TestFeed(t *testing.T) {
	for _, x := range []struct {
		b     string
		lf    bool
		want  api.Framer
		lines []api.Line
	}{
		{"ab\r\nc", false, come("c"), texts("ab")},
		{"", false, nothing, nil},
		{"", true, nothing, nil},
		{"ab", false, come("ab"), nil},
		{"ab\r", false, waits("ab"), nil},
		{"ab\r", true, waits("ab"), nil},
		{"ab\r\n", false, nothing, texts("ab")},
		{"ab\r\n", true, nothing, texts("ab")},
		{"USER me@ftp.a\r\nPASS x\r\nPA", false, come("PA"), texts("USER me@ftp.a", "PASS x")},
		{"\r\n", false, nothing, texts("")},
		{"\r\n\r\n\r\n", true, nothing, texts("", "", "")},
		{"\r", false, waits(""), nil},
		{"\r\r", false, waits("\r"), nil},
		{"\r\r\r", true, waits("\r\r"), nil},
		{"\r\r\n", false, nothing, texts("\r")},
		{"\r\r\n", true, nothing, texts("\r")},
		{"a\rb", false, come("a\rb"), nil},
		{"a\rb\r\n", true, nothing, texts("a\rb")},
		{"\n", false, come("\n"), nil},
		{"\n", true, nothing, texts("")},
		{"a\nb", false, come("a\nb"), nil},
		{"a\nb", true, come("b"), texts("a")},
		{"a\nb\r\n", false, nothing, texts("a\nb")},
		{"\n\r\n", false, nothing, texts("\n")},
		{"\n\r\n", true, nothing, texts("", "")},
		{"\n\r", false, waits("\n"), nil},
		{"\n\r", true, waits(""), texts("")},
		{"\r\n\n", false, come("\n"), texts("")},
		{"\r\n\n", true, nothing, texts("", "")},
		{"\r\n\r", false, waits(""), texts("")},
		{"\r\n\ra", false, come("\ra"), texts("")},
		{"a\r\nb\nc\rd\r\r\n\ne", true, come("e"), texts("a", "b", "c\rd\r", "")},
		{"a\r\nb\nc\rd\r\r\n\ne", false, come("\ne"), texts("a", "b\nc\rd\r")},
		{"\x00\xff\x80\r\n\xe4\x0d\x0a", false, nothing, texts("\x00\xff\x80", "\xe4")},
		{"\u010a\u0d0a\r\n", true, nothing, texts("\u010a\u0d0a")},
	} {
		checkFeed(t, nothing, x.b, api.MaxLine, x.lf, x.want, x.lines)
	}
}

// P6.1: from framers on of which something has come: bytes, a 13, a line that is too long, and of them more than one.
func TestFeedFromOthers(t *testing.T) {
	for _, x := range []struct {
		f     api.Framer
		b     string
		most  int
		lf    bool
		want  api.Framer
		lines []api.Line
	}{
		{come("ab"), "c\r\nd", 9, false, come("d"), texts("abc")},
		{come("ab"), "\r\n", 9, false, nothing, texts("ab")},
		{come("ab"), "\n", 9, false, come("ab\n"), nil},
		{come("ab"), "\n", 9, true, nothing, texts("ab")},
		{waits("ab"), "\n", 9, false, nothing, texts("ab")},
		{waits("ab"), "\n", 9, true, nothing, texts("ab")},
		{waits("ab"), "\nc", 9, false, come("c"), texts("ab")},
		{waits("ab"), "\n\n", 9, false, come("\n"), texts("ab")},
		{waits("ab"), "\r", 9, false, waits("ab\r"), nil},
		{waits("ab"), "\r\n", 9, false, nothing, texts("ab\r")},
		{waits("ab"), "c", 9, false, come("ab\rc"), nil},
		{waits("ab"), "c\n", 9, true, nothing, texts("ab\rc")},
		{waits("ab"), "c", 3, false, skips, nil},
		{waits("ab"), "c", 2, false, skips, nil},
		{waits("ab"), "\r", 3, false, waits("ab\r"), nil},
		{waits("ab"), "\r", 2, false, skipsAndWaits, nil},
		{waits("ab"), "\n", 2, false, nothing, texts("ab")},
		{waits("\r"), "\n", 2, false, nothing, texts("\r")},
		{come("\n"), "\r\n", 2, true, nothing, texts("\n")},
		{come("\r"), "\n", 2, false, come("\r\n"), nil},
		{come("\r"), "\n", 2, true, nothing, texts("\r")},
		{skips, "ab", 9, false, skips, nil},
		{skips, "ab\r", 9, false, skipsAndWaits, nil},
		{skips, "ab\r\nc\r\n", 9, false, nothing, []api.Line{over, text("c")}},
		{skips, "\r\n", 9, true, nothing, []api.Line{over}},
		{skips, "\n", 9, false, skips, nil},
		{skips, "\na", 9, true, come("a"), []api.Line{over}},
		{skipsAndWaits, "\n", 9, false, nothing, []api.Line{over}},
		{skipsAndWaits, "\n\n", 9, true, nothing, []api.Line{over, text("")}},
		{skipsAndWaits, "a", 9, false, skips, nil},
		{skipsAndWaits, "\r", 9, false, skipsAndWaits, nil},
		{skipsAndWaits, "\ra\r\nb", 9, false, come("b"), []api.Line{over}},
		{framer("ab", false, true), "c", 9, false, framer("ab", false, true), nil},
		{framer("ab", false, true), "\r\nc", 9, false, come("c"), []api.Line{over}},
		{framer("ab", true, true), "c", 9, false, framer("ab", false, true), nil},
		{framer("ab", true, true), "\n", 9, false, nothing, []api.Line{over}},
		{framer("ab", true, true), "\r", 1, false, framer("ab", true, true), nil},
		{come("abc"), "d", 2, false, skips, nil},
		{come("abc"), "\r", 2, false, waits("abc"), nil},
		{come("abc"), "\r\n", 2, false, nothing, texts("abc")},
		{come("abc"), "\n", 2, true, nothing, texts("abc")},
		{come("abc"), "\n", 2, false, skips, nil},
		{waits("abc"), "\n", 2, false, nothing, texts("abc")},
		{waits("abc"), "\r\n", 2, false, nothing, []api.Line{over}},
		{waits("abc"), "d\r\nef\r\n", 2, false, nothing, []api.Line{over, text("ef")}},
	} {
		checkFeed(t, x.f, x.b, x.most, x.lf, x.want, x.lines)
	}
}

// P6.1: without bytes all stays as it is, also what no framer would have come to.
func TestFeedNoBytes(t *testing.T) {
	for _, f := range begins() {
		for _, most := range []int{math.MinInt, -1, 0, 1, 2, 512, math.MaxInt} {
			for _, b := range [][]byte{nil, {}} {
				for _, lf := range []bool{false, true} {
					if to, lines := Feed(f, b, most, lf); show(to) != show(f) || len(lines) != 0 {
						t.Errorf("Feed(%s, nothing, %d, %t) = %s, %v, want it as it is, and no lines", show(f), most, lf, show(to), lines)
					}
				}
			}
		}
	}
}

// P6.1: a 13, and what it becomes by what comes behind it, be it each of the 256 bytes, or nothing more.
func TestFeedWhatFollowsA13(t *testing.T) {
	for _, one := range singly(everyByte()) {
		for _, lf := range []bool{false, true} {
			switch one {
			case "\n":
				checkFeed(t, waits("ab"), one, 9, lf, nothing, texts("ab"))
				checkFeed(t, waits("ab"), one, 2, lf, nothing, texts("ab"))
			case "\r":
				checkFeed(t, waits("ab"), one, 9, lf, waits("ab\r"), nil)
				checkFeed(t, waits("ab"), one, 2, lf, skipsAndWaits, nil)
			default:
				checkFeed(t, waits("ab"), one, 9, lf, come("ab\r"+one), nil)
				checkFeed(t, waits("ab"), one, 4, lf, come("ab\r"+one), nil)
				checkFeed(t, waits("ab"), one, 3, lf, skips, nil)
				checkFeed(t, waits("ab"), one, 2, lf, skips, nil)
			}
		}
	}
	for n := range 20 {
		checkFeed(t, nothing, strings.Repeat("\r", n+1), 512, false, waits(strings.Repeat("\r", n)), nil)
		checkFeed(t, nothing, strings.Repeat("\r", n+1)+"\n", 512, true, nothing, texts(strings.Repeat("\r", n)))
		checkFeed(t, nothing, strings.Repeat("\r", n+1)+"\n", n, false, nothing, texts(strings.Repeat("\r", n)))
		checkFeed(t, nothing, strings.Repeat("\r", n+2)+"\n", n, true, nothing, []api.Line{over})
	}
}

// P6.1: each of the 256 bytes at every place of a line, from framers of every sort on.
func TestFeedEveryByte(t *testing.T) {
	for _, one := range singly(everyByte()) {
		for _, b := range []string{one, "a" + one, one + "b", "a" + one + "b\r\nc", "\r" + one, one + "\n", one + one + "\r\n" + one} {
			for _, f := range begins() {
				for _, most := range []int{0, 2, 9} {
					checkAgainstCuts(t, f, b, most, false)
					checkAgainstCuts(t, f, b, most, true)
				}
			}
		}
	}
}

// P6.1: a 13, a 10 and text in every order, up to six of them, from framers of every sort on, with every bound about their lengths.
func TestFeedInEveryOrder(t *testing.T) {
	inEveryOrder("a\r\n", 6, func(b string) {
		for _, f := range begins() {
			for _, most := range []int{math.MinInt, -1, 0, 1, 2, 3, 4, 5, 6, 512, math.MaxInt} {
				checkAgainstCuts(t, f, b, most, false)
				checkAgainstCuts(t, f, b, most, true)
			}
		}
	})
}

// P6.1, P6.3: a line of just most bytes is one, and one of a byte more is too long, whatever its bytes are.
func TestFeedAtMost(t *testing.T) {
	for _, most := range []int{0, 1, 2, 3, 60, 511, 512, 513, 1 << 16} {
		for _, c := range []string{"a", "\n", "\x00", "\xff"} {
			just := strings.Repeat(c, most)
			checkFeed(t, nothing, just+"\r\n", most, false, nothing, texts(just))
			checkFeed(t, nothing, just, most, false, come(just), nil)
			checkFeed(t, nothing, just+"\r", most, false, waits(just), nil)
			checkFeed(t, nothing, just+c, most, false, skips, nil)
			checkFeed(t, nothing, just+c+"\r", most, false, skipsAndWaits, nil)
			checkFeed(t, nothing, just+c+"\r\n", most, false, nothing, []api.Line{over})
			checkFeed(t, nothing, just+"\rb", most, false, skips, nil)
			checkFeed(t, nothing, just+c+c+"\r\n"+just+"\r\n", most, false, nothing, []api.Line{over, text(just)})
		}
	}
	checkFeed(t, nothing, strings.Repeat("a", 512)+"\n"+strings.Repeat("b", 513)+"\nc\n", api.MaxLine, true, nothing, []api.Line{text(strings.Repeat("a", 512)), over, text("c")})
	checkFeed(t, nothing, strings.Repeat("a", 1<<20)+"\r\nb\r\n", api.MaxLine, false, nothing, []api.Line{over, text("b")})
	checkFeed(t, nothing, strings.Repeat("a", 1<<20)+"\r\n", math.MaxInt, false, nothing, texts(strings.Repeat("a", 1<<20)))
}

// P6.1: where nothing may be put, every line with a byte is too long, and one without is none the less one.
func TestFeedNothingMayBePut(t *testing.T) {
	for _, most := range []int{0, -1, -2, -512, math.MinInt, -1 << 32, -1<<32 + 9} {
		checkFeed(t, nothing, "a", most, false, skips, nil)
		checkFeed(t, nothing, "a\r\n", most, false, nothing, []api.Line{over})
		checkFeed(t, nothing, "\r\n", most, false, nothing, texts(""))
		checkFeed(t, nothing, "\n", most, false, skips, nil)
		checkFeed(t, nothing, "\n", most, true, nothing, texts(""))
		checkFeed(t, nothing, "\r", most, false, waits(""), nil)
		checkFeed(t, nothing, "\r\r", most, false, skipsAndWaits, nil)
		checkFeed(t, come("ab"), "\r\n", most, false, nothing, texts("ab"))
		checkFeed(t, come("ab"), "c", most, false, skips, nil)
	}
}

// P6.3: from nothing on, no line has more than most bytes, nor has what has come of one.
func TestFeedNoLineIsLonger(t *testing.T) {
	inEveryOrder("a\r\n", 7, func(b string) {
		for most := range 4 {
			for _, lf := range []bool{false, true} {
				to, lines := Feed(nothing, []byte(b), most, lf)
				if len(to.B) > most {
					t.Errorf("Feed(nothing, %q, %d, %t) has come to %q", b, most, lf, to.B)
				}
				for _, l := range lines {
					if len(l.Text) > most || l.Over && l.Text != "" {
						t.Errorf("Feed(nothing, %q, %d, %t) told %v", b, most, lf, l)
					}
				}
			}
		}
	})
}

// P6.3: behind a line that was too long, the next one is whole.
func TestFeedBehindOneTooLong(t *testing.T) {
	for _, long := range []string{"abcd", "abcde", "abc\r\r", "\r\r\r\r\r", "ab\rcd", "\x00\x00\x00\x00", strings.Repeat("x", 1<<10)} {
		for _, next := range []string{"", "a", "abc", "\rb", "a\rb", "\x00"} {
			want := []api.Line{over, text(next)}
			checkFeed(t, nothing, long+"\r\n"+next+"\r\n", 3, false, nothing, want)
			checkFeed(t, nothing, long+"\r\n"+next+"\r\n", 3, true, nothing, want)
			checkFeed(t, nothing, long+"\n"+next+"\n", 3, true, nothing, want)
			checkFeed(t, nothing, long+"\r\n"+long+"\r\n"+next+"\r\n"+long, 3, false, framer("", strings.HasSuffix(long, "\r"), true), []api.Line{over, over, text(next)})
		}
	}
	checkFeed(t, nothing, "abcd\r\n\r\r\r\n", 3, false, nothing, []api.Line{over, text("\r\r")})
}

// P6.3: it does not matter how bytes are cut into parts: two of them, one a byte, and some empty ones.
func TestFeedCutAtEveryPlace(t *testing.T) {
	check := func(f api.Framer, b string, most int, lf bool) {
		want, lines := Feed(f, []byte(b), most, lf)
		for i := range len(b) + 1 {
			checkParts(t, f, most, lf, want, lines, b[:i], b[i:])
		}
		checkParts(t, f, most, lf, want, lines, append(singly(b), "", "")...)
	}
	inEveryOrder("a\r\n", 5, func(b string) {
		for _, f := range begins() {
			for _, most := range []int{-1, 0, 1, 2, 3, 9} {
				check(f, b, most, false)
				check(f, b, most, true)
			}
		}
	})
	for _, b := range []string{"ab\r\nc", "USER me@ftp.a\r\nPASS x\r\n", "a\nb\r\r\n\n\nc\r", everyByte(), strings.Repeat("0123456789\r\n", 3) + strings.Repeat("x", 600) + "\r\ny\r\n"} {
		for _, most := range []int{0, 5, 10, 256, 512} {
			check(nothing, b, most, false)
			check(nothing, b, most, true)
		}
	}
}

// P6.1: two framers are the same if all of three are.
func TestSame(t *testing.T) {
	check := func(a, b api.Framer, want bool) {
		t.Helper()
		if Same(a, b) != want || Same(b, a) != want {
			t.Errorf("Same(%s, %s) = %t, and the other way %t, want %t", show(a), show(b), Same(a, b), Same(b, a), want)
		}
	}
	for _, a := range begins() {
		for _, b := range begins() {
			check(a, b, show(a) == show(b))
		}
	}
	check(api.Framer{}, api.Framer{B: []byte{}}, true)
	check(api.Framer{B: nil, Cr: true, Skip: true}, api.Framer{B: make([]byte, 0, 9), Cr: true, Skip: true}, true)
	check(api.Framer{}, api.Framer{B: []byte{0}}, false)
	check(api.Framer{}, api.Framer{Cr: true}, false)
	check(api.Framer{}, api.Framer{Skip: true}, false)
	check(api.Framer{Cr: true}, api.Framer{Skip: true}, false)
	check(come("ab"), come("ab"), true)
	check(come("ab"), come("ac"), false)
	check(come("ab"), come("bb"), false)
	check(come("ab"), come("a"), false)
	check(come("ab"), come("abc"), false)
	check(come("ab"), come("AB"), false)
	check(come("ab"), waits("ab"), false)
	check(come("ab"), framer("ab", false, true), false)
	check(waits("ab"), framer("ab", true, true), false)
	check(waits("ab"), framer("ab", false, true), false)
	check(come(strings.Repeat("a", 1<<16)), come(strings.Repeat("a", 1<<16)), true)
	check(come(strings.Repeat("a", 1<<16)), come(strings.Repeat("a", 1<<16-1)+"b"), false)
	check(come("abc"), api.Framer{B: append(make([]byte, 0, 99), "abc"...)}, true)
}

func checkPrint(t *testing.T, s string, most int, want string, wantIs bool) {
	t.Helper()
	if b, is := Print(s, most); string(b) != want || is != wantIs {
		t.Errorf("Print(%q, %d) = %q, %t, want %q, %t", s, most, b, is, want, wantIs)
	}
}

// P6.2: a text that may be a line.
func TestPrint(t *testing.T) {
	for _, s := range []string{"", "a", "ab", "220 ftp.a", "USER me", " ", "\x00", "\x0b\x0c\x09\x0e", "\xff\xf2\x80", "\u010a\u0d0a\u000b", "\u2028\u2029\u0085", "\\r\\n", strings.Repeat("a", 512)} {
		for _, most := range []int{len(s), len(s) + 1, len(s) + 2, 1 << 20, math.MaxInt} {
			checkPrint(t, s, most, s+"\r\n", true)
		}
		for _, most := range []int{len(s) - 1, -1, -512, math.MinInt} {
			checkPrint(t, s, most, "", false)
		}
	}
	checkPrint(t, strings.Repeat("a", api.MaxLine), api.MaxLine, strings.Repeat("a", 512)+"\r\n", true)
	checkPrint(t, strings.Repeat("a", api.MaxLine+1), api.MaxLine, "", false)
	checkPrint(t, strings.Repeat("a", api.MaxLine+2), api.MaxLine, "", false)
}

// P6.2: most is of a text's bytes, not of its runes.
func TestPrintCountsBytes(t *testing.T) {
	checkPrint(t, "\u00e4\u00f6", 4, "\u00e4\u00f6\r\n", true)
	checkPrint(t, "\u00e4\u00f6", 3, "", false)
	checkPrint(t, "\u00e4\u00f6", 2, "", false)
	checkPrint(t, "\xff\xff", 2, "\xff\xff\r\n", true)
}

// P6.2: each of the 256 bytes at every place of a text: just a 10 and a 13 may not stand there.
func TestPrintEveryByte(t *testing.T) {
	for _, one := range singly(everyByte()) {
		is := one != "\r" && one != "\n"
		for _, s := range []string{one, one + "bc", "a" + one + "c", "ab" + one, one + one} {
			want := ""
			if is {
				want = s + "\r\n"
			}
			checkPrint(t, s, 9, want, is)
			checkPrint(t, s, len(s), want, is)
			checkPrint(t, s, len(s)-1, "", false)
		}
	}
	for _, s := range []string{"\r\n", "\n\r", "a\r\n", "a\r\nb", "\r\nb", "QUIT\r\nQUIT", "a\n\n"} {
		checkPrint(t, s, 9, "", false)
		checkPrint(t, s, 512, "", false)
	}
}

// P6.3: what is printed is one line again, wherever it is cut, also one behind the other, and behind a line that is too long.
func TestPrintThenFeed(t *testing.T) {
	check := func(most int, lf bool, of ...string) {
		t.Helper()
		b := ""
		for _, s := range of {
			one, is := Print(s, most)
			if !is {
				t.Fatalf("Print(%q, %d) told nothing", s, most)
			}
			b += string(one)
		}
		for i := range len(b) + 1 {
			checkParts(t, nothing, most, lf, nothing, texts(of...), b[:i], b[i:])
		}
		checkParts(t, nothing, most, lf, nothing, texts(of...), singly(b)...)
		checkFeed(t, skips, "\r\n"+b, most, lf, nothing, append([]api.Line{over}, texts(of...)...))
	}
	for _, lf := range []bool{false, true} {
		for _, one := range singly(everyByte()) {
			if one != "\r" && one != "\n" {
				check(1, lf, one)
				check(9, lf, one, "", one+one, "a"+one)
			}
		}
		check(0, lf, "")
		check(0, lf, "", "", "")
		check(13, lf, "USER me@ftp.a", "PASS x", "", "QUIT")
		check(512, lf, strings.Repeat("a", 512), "b", strings.Repeat("c", 511))
	}
	inEveryOrder("a\r\n", 4, func(s string) {
		for most := range 5 {
			b, is := Print(s, most)
			if is {
				checkFeed(t, nothing, string(b), most, false, nothing, texts(s))
				checkFeed(t, nothing, string(b), most, true, nothing, texts(s))
			} else if len(s) <= most && !strings.ContainsAny(s, "\r\n") {
				t.Errorf("Print(%q, %d) told nothing", s, most)
			}
		}
	})
}

// P6.1 with R3: bytes that are handed in stay as they were, also ahead of them and behind their end, and share no memory with what is answered.
func TestFeedLeavesWhatIsHandedIn(t *testing.T) {
	const rest = "ahead and behind"
	for _, begun := range []string{"", "x", "xyz"} {
		for _, b := range []string{"", "a", "ab", "ab\r\nc", "\r\n", "ab\r", "abcdefgh", "\n\n"} {
			for _, skip := range []bool{false, true} {
				wholeB, wholeF := []byte(rest+b+rest), []byte(rest+begun+rest)
				f := api.Framer{B: wholeF[len(rest) : len(rest)+len(begun)], Skip: skip}
				given := wholeB[len(rest) : len(rest)+len(b)]
				to, lines := Feed(f, given, 5, true)
				if string(wholeB) != rest+b+rest || string(wholeF) != rest+begun+rest || f.Skip != skip || f.Cr {
					t.Errorf("Feed(%q, %q): they became %q and %q", begun, b, wholeF, wholeB)
				}
				told, toldLines := show(to), fmt.Sprint(lines)
				again, _ := Feed(f, given, 5, true)
				grown := append(to.B, rest...)
				for i := range grown {
					grown[i] = '!'
				}
				if string(wholeB) != rest+b+rest || string(wholeF) != rest+begun+rest {
					t.Errorf("Feed(%q, %q): they became %q and %q with what was answered", begun, b, wholeF, wholeB)
				}
				if show(again) != told {
					t.Errorf("Feed(%q, %q): %s became %s with another answer", begun, b, told, show(again))
				}
				for i := range wholeB {
					wholeB[i] = '?'
				}
				for i := range wholeF {
					wholeF[i] = '?'
				}
				if show(again) != told || fmt.Sprint(lines) != toldLines {
					t.Errorf("Feed(%q, %q): %s, %s became %s, %v with what was handed in", begun, b, told, toldLines, show(again), lines)
				}
			}
		}
	}
}

// P6.1 with R3, R5: a framer may be fed twice, as the one answer changes nothing of the other, however much room is behind its bytes.
func TestFeedTwice(t *testing.T) {
	for _, room := range []int{2, 3, 4, 99} {
		f := api.Framer{B: append(make([]byte, 0, room), "ab"...)}
		first, _ := Feed(f, []byte("c"), 9, false)
		second, _ := Feed(f, []byte("d"), 9, false)
		third, lines := Feed(f, []byte("ef\r\ng"), 9, false)
		if show(f) != show(come("ab")) || show(first) != show(come("abc")) || show(second) != show(come("abd")) || show(third) != show(come("g")) || !slices.Equal(lines, texts("abef")) {
			t.Errorf("with room for %d: %s led to %s, %s, and %s, %v", room, show(f), show(first), show(second), show(third), lines)
		}
		// And what was answered is such a framer again.
		left, _ := Feed(first, []byte("x"), 9, false)
		right, _ := Feed(first, []byte("y"), 9, false)
		if show(left) != show(come("abcx")) || show(right) != show(come("abcy")) || show(first) != show(come("abc")) {
			t.Errorf("with room for %d: %s led to %s and %s", room, show(first), show(left), show(right))
		}
	}
}

// P6.1 with R3, R5: two answers share no lines, and the one does not hang on the other.
func TestFeedAnswersAreApart(t *testing.T) {
	b := []byte("ab\r\ncd\r\nef")
	_, first := Feed(nothing, b, 9, false)
	_, second := Feed(nothing, b, 9, false)
	first[0].Text, first[1].Over = "!", true
	_ = append(first[:0], over, over, over)
	if !slices.Equal(second, texts("ab", "cd")) {
		t.Errorf("the lines became %v with those of another answer", second)
	}
}

// P6.1 with R3: Same leaves both as they were.
func TestSameLeavesWhatIsHandedIn(t *testing.T) {
	a, b := framer("abc", true, false), framer("abd", true, false)
	Same(a, b)
	if show(a) != show(framer("abc", true, false)) || show(b) != show(framer("abd", true, false)) {
		t.Errorf("they became %s and %s", show(a), show(b))
	}
}

// P6.2 with R3, R5: two answers share no memory, and the one does not hang on the other.
func TestPrintAnswersAreApart(t *testing.T) {
	first, _ := Print("ab", 9)
	second, _ := Print("ab", 9)
	_ = append(second, "xyz"...)
	for i := range second {
		second[i] = '!'
	}
	third, _ := Print("ab", 9)
	if !bytes.Equal(first, []byte("ab\r\n")) || !bytes.Equal(third, first) {
		t.Errorf("%q and %q, want ab, 13 and 10", first, third)
	}
}
