package telnet

import (
	"bytes"
	"math"
	"regexp"
	"strings"
	"testing"
)

// outcome is what Strip tells.
type outcome struct {
	state int
	text  string
	drops int
}

// states are all there are, with bytes that lead to each of them from plain on.
var states = []struct {
	state int
	ahead string
}{
	{0, ""}, {1, "\xff"}, {2, "\xff\xfb"},
}

// strangeStates are none: what lies beside the three, and numbers whose lower bytes alone would be one of them.
var strangeStates = []int{
	-1, -2, -3, 3, 4, 5, 9, 10, 242, 251, 254, 255, 256, 257, 258, 65536, 65537, 65538, -255, -254, -256,
	1 << 32, 1<<32 + 1, 1<<32 + 2, -1<<32 + 1, -1<<32 + 2, 1<<62 + 1, 1<<62 + 2,
	math.MinInt, math.MinInt + 1, math.MinInt + 2, math.MaxInt, math.MaxInt - 1,
}

// pieces are what bytes are made of from plain on, told by a pattern so that they are not told as Strip tells them: a wish, one that is cut off, a call and what follows it, one that is cut off, and text.
var pieces = regexp.MustCompile(`(?s)\xff[\xfb-\xfe].|\xff[\xfb-\xfe]|\xff.|\xff|.`)

// latin is each byte as a rune of that number, as a pattern reads runes.
func latin(b string) string {
	r := make([]rune, len(b))
	for i := range len(b) {
		r[i] = rune(b[i])
	}
	return string(r)
}

func wantStrip(ahead, b string) outcome {
	var want outcome
	for _, piece := range pieces.FindAllString(latin(ahead+b), -1) {
		r := []rune(piece)
		want.state = 0
		switch {
		case len(r) == 3:
		case len(r) == 2 && r[1] == 255:
			want.text += "\xff"
		case len(r) == 2 && r[1] == 242:
			want.drops++
		case len(r) == 2 && r[1] >= 251 && r[1] <= 254:
			want.state = 2
		case len(r) == 2:
		case r[0] == 255:
			want.state = 1
		default:
			want.text += string([]byte{byte(r[0])})
		}
	}
	return want
}

func strip(state int, b string) outcome {
	to, text, drops := Strip(state, []byte(b))
	return outcome{to, string(text), drops}
}

// stripParts strips one part after the other, from where the one ahead led to.
func stripParts(state int, parts ...string) outcome {
	all := outcome{state: state}
	for _, part := range parts {
		o := strip(all.state, part)
		all = outcome{o.state, all.text + o.text, all.drops + o.drops}
	}
	return all
}

func checkStrip(t *testing.T, state int, b string, want outcome) {
	t.Helper()
	if got := strip(state, b); got != want {
		t.Errorf("Strip(%d, %q) = %d, %q, %d, want %d, %q, %d", state, b, got.state, got.text, got.drops, want.state, want.text, want.drops)
	}
}

func checkParts(t *testing.T, state int, want outcome, parts ...string) {
	t.Helper()
	if got := stripParts(state, parts...); got != want {
		t.Errorf("Strip from %d on of %q, one after the other = %d, %q, %d, want %d, %q, %d", state, parts, got.state, got.text, got.drops, want.state, want.text, want.drops)
	}
}

func checkEscape(t *testing.T, b, want string) {
	t.Helper()
	if got := string(Escape([]byte(b))); got != want {
		t.Errorf("Escape(%q) = %q, want %q", b, got, want)
	}
}

// inEveryOrder calls back with every text of up to so many of the given bytes.
func inEveryOrder(of string, most int, f func(b string)) {
	var all func(b string, left int)
	all = func(b string, left int) {
		f(b)
		for i := 0; left > 0 && i < len(of); i++ {
			all(b+of[i:i+1], left-1)
		}
	}
	all("", most)
}

// singly is a text cut into its bytes.
func singly(b string) []string {
	var ones []string
	for i := range len(b) {
		ones = append(ones, b[i:i+1])
	}
	return ones
}

// everyByte is each of the 256 bytes, once.
func everyByte() string {
	b := make([]byte, 256)
	for i := range b {
		b[i] = byte(i)
	}
	return string(b)
}

// P5.1, with the chapter's example first.
func TestStrip(t *testing.T) {
	for _, x := range []struct {
		state int
		b     string
		want  outcome
	}{
		{0, "a\xff\xfd\x01b", outcome{0, "ab", 0}},
		{0, "", outcome{0, "", 0}},
		{0, "USER me@ftp.a\r\n", outcome{0, "USER me@ftp.a\r\n", 0}},
		{0, "\x00\r\n\t\x7f\x80\xf0\xfe", outcome{0, "\x00\r\n\t\x7f\x80\xf0\xfe", 0}},
		{0, "a\xffb", outcome{0, "a", 0}},
		{0, "a\xffbc", outcome{0, "ac", 0}},
		{0, "a\xff\xffb", outcome{0, "a\xffb", 0}},
		{0, "\xff\xff\xff\xff", outcome{0, "\xff\xff", 0}},
		{0, "\xff\xff\xff", outcome{1, "\xff", 0}},
		{0, "\xff\xff\xff\xf2", outcome{0, "\xff", 1}},
		{0, "\xff\xff\xf2", outcome{0, "\xff\xf2", 0}},
		{0, "\xff\xff\xfd\x01", outcome{0, "\xff\xfd\x01", 0}},
		{0, "\xff\xf4\xff\xf2ABOR\r\n", outcome{0, "ABOR\r\n", 1}},
		{0, "\xff\xfb\xff\xfb\xff", outcome{1, "\xfb", 0}},
		{0, "\xff\xfb\xff\xff\xfb\xff", outcome{0, "", 0}},
		{0, "\xff\xfd\xfd\xfd", outcome{0, "\xfd", 0}},
		{0, "\xff\xfa\x01\x02\xff\xf0", outcome{0, "\x01\x02", 0}},
		{0, "a\xff\xfbxb\xff\xfcxc\xff\xfdxd\xff\xfexe", outcome{0, "abcde", 0}},
		{1, "ab", outcome{0, "b", 0}},
		{1, "\xffa", outcome{0, "\xffa", 0}},
		{1, "\xff\xff", outcome{1, "\xff", 0}},
		{1, "\xfd\x01b", outcome{0, "b", 0}},
		{1, "\xf2b", outcome{0, "b", 1}},
		{2, "ab", outcome{0, "b", 0}},
		{2, "\xff\xff", outcome{1, "", 0}},
		{2, "\xff\xff\xff", outcome{0, "\xff", 0}},
		{2, "\xfd\x01b", outcome{0, "\x01b", 0}},
		{2, "\xf2b", outcome{0, "b", 0}},
	} {
		checkStrip(t, x.state, x.b, x.want)
	}
}

// P5.1: each of the 256 bytes in each of the three states, and in states that are none, which are taken as the first one.
func TestStripEveryByteInEveryState(t *testing.T) {
	for c, one := range singly(everyByte()) {
		fromPlain, fromCalled := outcome{0, one, 0}, outcome{0, "", 0}
		switch c {
		case 242:
			fromCalled = outcome{0, "", 1}
		case 251, 252, 253, 254:
			fromCalled = outcome{2, "", 0}
		case 255:
			fromPlain, fromCalled = outcome{1, "", 0}, outcome{0, "\xff", 0}
		}
		checkStrip(t, 0, one, fromPlain)
		checkStrip(t, 1, one, fromCalled)
		checkStrip(t, 2, one, outcome{0, "", 0})
		for _, state := range strangeStates {
			checkStrip(t, state, one, fromPlain)
		}
	}
}

// P5.1: a byte has no other meaning by what stood ahead of the call, or stands behind what it leads to.
func TestStripEveryByteAmongText(t *testing.T) {
	for _, one := range singly(everyByte()) {
		for _, b := range []string{"a" + one + "bc", "a\xff" + one + "bc", "a\xff\xff" + one + "bc", "a\xff\xfc" + one + "bc", "a\xff\xf2" + one + "bc", "a\xff\xf4" + one + "bc", one + "\xff" + one + "\xff" + one + one} {
			for _, s := range states {
				checkStrip(t, s.state, b, wantStrip(s.ahead, b))
			}
		}
	}
}

// P5.1: a 242 counts just where it follows a call.
func TestStripCountsDrops(t *testing.T) {
	for _, x := range []struct {
		state int
		b     string
		want  outcome
	}{
		{0, "\xff\xf2", outcome{0, "", 1}},
		{0, "a\xff\xf2b", outcome{0, "ab", 1}},
		{0, "\xff\xf2\xff\xf2\xff\xf2", outcome{0, "", 3}},
		{0, "\xff\xf2a\xff\xf2b\xff", outcome{1, "ab", 2}},
		{0, "\xff\xf2\xf2\xf2", outcome{0, "\xf2\xf2", 1}},
		{0, "\xff\xff\xf2\xff\xf2", outcome{0, "\xff\xf2", 1}},
		{0, "\xf2", outcome{0, "\xf2", 0}},
		{0, "a\xf2b", outcome{0, "a\xf2b", 0}},
		{0, "\xff\xff\xf2", outcome{0, "\xff\xf2", 0}},
		{0, "\xff\xfb\xf2", outcome{0, "", 0}},
		{0, "\xff\xfe\xf2\xf2", outcome{0, "\xf2", 0}},
		{0, "\xff\xfd\xff\xf2", outcome{0, "\xf2", 0}},
		{0, "\xff\xf1\xf2", outcome{0, "\xf2", 0}},
		{0, "\xff\xf1\xff\xf3", outcome{0, "", 0}},
		{1, "\xf2", outcome{0, "", 1}},
		{1, "\xf2\xf2", outcome{0, "\xf2", 1}},
		{1, "\xff\xf2", outcome{0, "\xff\xf2", 0}},
		{2, "\xf2", outcome{0, "", 0}},
		{2, "\xff\xf2", outcome{0, "\xf2", 0}},
		{2, "a\xff\xf2", outcome{0, "", 1}},
		{3, "\xf2", outcome{0, "\xf2", 0}},
		{-1, "\xff\xf2", outcome{0, "", 1}},
		{0, strings.Repeat("\xff\xf2", 1<<16), outcome{0, "", 1 << 16}},
		{0, strings.Repeat("\xf2", 1<<16), outcome{0, strings.Repeat("\xf2", 1<<16), 0}},
	} {
		checkStrip(t, x.state, x.b, x.want)
	}
}

// P5.1: without bytes a state stays, and one that is none is told as it is taken.
func TestStripNoBytes(t *testing.T) {
	check := func(state, want int) {
		for _, b := range [][]byte{nil, {}} {
			if to, text, drops := Strip(state, b); to != want || len(text) != 0 || drops != 0 {
				t.Errorf("Strip(%d, nothing) = %d, %q, %d, want %d, nothing, 0", state, to, text, drops, want)
			}
		}
	}
	for _, s := range states {
		check(s.state, s.state)
	}
	for _, state := range strangeStates {
		check(state, 0)
	}
}

// P5.1: a state that is none is taken as the first one, whatever comes.
func TestStripStrangeStates(t *testing.T) {
	for _, state := range strangeStates {
		inEveryOrder("a\xf2\xfb\xff", 4, func(b string) {
			checkStrip(t, state, b, wantStrip("", b))
		})
	}
}

// P5.1: a 255 at the end is left out, and what it is is told by what comes behind it.
func TestStripCallAtTheEnd(t *testing.T) {
	checkStrip(t, 0, "\xff", outcome{1, "", 0})
	checkStrip(t, 0, "ab\xff", outcome{1, "ab", 0})
	checkStrip(t, 0, "ab\xff\xff", outcome{0, "ab\xff", 0})
	checkStrip(t, 0, "ab\xff\xff\xff", outcome{1, "ab\xff", 0})
	checkStrip(t, 1, "\xff", outcome{0, "\xff", 0})
	checkStrip(t, 2, "\xff", outcome{0, "", 0})
	checkStrip(t, 7, "\xff", outcome{1, "", 0})
	checkParts(t, 0, outcome{0, "ab\xffc", 0}, "ab\xff", "\xffc")
	checkParts(t, 0, outcome{0, "abd", 0}, "ab\xff", "cd")
	checkParts(t, 0, outcome{0, "abc", 1}, "ab\xff", "\xf2c")
	checkParts(t, 0, outcome{0, "abc", 0}, "ab\xff", "\xfe\xffc")
	checkParts(t, 0, outcome{0, "abc", 0}, "ab\xff", "", "\xfe", "", "\xff", "c")
	for calls := range 20 {
		checkStrip(t, 0, strings.Repeat("\xff", calls), outcome{calls % 2, strings.Repeat("\xff", calls/2), 0})
	}
	checkStrip(t, 0, strings.Repeat("\xff", 1<<20+1), outcome{1, strings.Repeat("\xff", 1<<19), 0})
}

// P5.1, P5.3: the three bytes of a wish leave nothing, wherever they are cut.
func TestStripWishes(t *testing.T) {
	for _, wish := range []string{"\xfb", "\xfc", "\xfd", "\xfe"} {
		checkStrip(t, 0, "a\xff"+wish, outcome{2, "a", 0})
		checkStrip(t, 1, wish, outcome{2, "", 0})
		for _, wished := range singly(everyByte()) {
			b, want := "a\xff"+wish+wished+"b", outcome{0, "ab", 0}
			checkStrip(t, 0, b, want)
			for i := range len(b) + 1 {
				for j := i; j <= len(b); j++ {
					checkParts(t, 0, want, b[:i], b[i:j], b[j:])
				}
			}
			checkParts(t, 0, want, singly(b)...)
		}
	}
	for _, none := range []string{"\xf0", "\xfa"} {
		checkStrip(t, 0, "a\xff"+none+"\x01b", outcome{0, "a\x01b", 0})
	}
}

// P5.1: bytes of every sort in every order, up to five of them, in each state; each sort with what lies beside its bounds.
func TestStripInEveryOrder(t *testing.T) {
	inEveryOrder("a\xf1\xf2\xf3\xfa\xfb\xfe\xff", 5, func(b string) {
		for _, s := range states {
			checkStrip(t, s.state, b, wantStrip(s.ahead, b))
		}
	})
}

// P5.3: it does not matter how bytes are cut into parts: two of them, one a byte, and some empty ones.
func TestStripCutAtEveryPlace(t *testing.T) {
	check := func(state int, b string) {
		want := strip(state, b)
		for i := range len(b) + 1 {
			checkParts(t, state, want, b[:i], b[i:])
		}
		checkParts(t, state, want, append(singly(b), "", "")...)
	}
	inEveryOrder("a\xf2\xf4\xfb\xfe\xff", 5, func(b string) {
		if b == "" {
			return
		}
		for _, s := range states {
			check(s.state, b)
		}
		check(-1, b)
		check(3, b)
	})
	for _, s := range states {
		check(s.state, everyByte()+everyByte())
		check(s.state, "\xff"+strings.Join(singly(everyByte()), "\xff"))
		check(s.state, "\xff\xfc"+strings.Join(singly(everyByte()), "\xff\xfc"))
	}
}

// P5.2: each 255 twice, and every other byte once.
func TestEscape(t *testing.T) {
	for _, x := range []struct{ b, want string }{
		{"", ""}, {"a", "a"}, {"ab", "ab"}, {"220 ftp.a\r\n", "220 ftp.a\r\n"},
		{"\xff", "\xff\xff"}, {"a\xffb\xff", "a\xff\xffb\xff\xff"}, {"\xff\xff", "\xff\xff\xff\xff"}, {"\xff\xff\xff", "\xff\xff\xff\xff\xff\xff"}, {"\xffab", "\xff\xffab"},
		{"\xff\xf2", "\xff\xff\xf2"}, {"\xff\xfd\x01", "\xff\xff\xfd\x01"}, {"\xf2\xfb\xfc\xfd\xfe", "\xf2\xfb\xfc\xfd\xfe"}, {"\x00\x7f\x80", "\x00\x7f\x80"}, {"\u00ff", "\u00ff"}, {"\u00e9\xff\u20ac", "\u00e9\xff\xff\u20ac"},
		{strings.Repeat("\xff", 1<<16), strings.Repeat("\xff", 1<<17)}, {strings.Repeat("\xfe", 1<<16), strings.Repeat("\xfe", 1<<16)},
	} {
		checkEscape(t, x.b, x.want)
	}
	for _, one := range singly(everyByte()) {
		want := one
		if one == "\xff" {
			want = "\xff\xff"
		}
		checkEscape(t, one, want)
		checkEscape(t, "a"+one+one+"b", "a"+want+want+"b")
		checkEscape(t, "\xff"+one+"\xff", "\xff\xff"+want+"\xff\xff")
	}
	if b := Escape(nil); len(b) != 0 {
		t.Errorf("Escape(nil) = %q, want nothing", b)
	}
	if b := Escape([]byte{}); len(b) != 0 {
		t.Errorf("Escape(nothing) = %q, want nothing", b)
	}
}

// P5.3: what is escaped is as it was, when it was stripped, wherever it is cut.
func TestEscapeThenStrip(t *testing.T) {
	check := func(b string) {
		escaped, want := string(Escape([]byte(b))), outcome{0, b, 0}
		checkStrip(t, 0, escaped, want)
		for i := range len(escaped) + 1 {
			checkParts(t, 0, want, escaped[:i], escaped[i:])
		}
	}
	inEveryOrder("a\xf2\xf4\xfb\xfe\xff", 5, check)
	for _, one := range singly(everyByte()) {
		check(one)
		check("\xff" + one)
		check(one + "\xff" + one + one)
	}
	check(everyByte())
	check(everyByte() + everyByte())
	for _, state := range strangeStates {
		checkStrip(t, state, string(Escape([]byte(everyByte()))), outcome{0, everyByte(), 0})
	}
}

// P5.3 holds from plain on alone: from the other states on the first byte is no text, but for the first half of an escaped 255.
func TestEscapeThenStripFromOtherStates(t *testing.T) {
	checkStrip(t, 1, string(Escape([]byte("ab"))), outcome{0, "b", 0})
	checkStrip(t, 1, string(Escape([]byte("\xffb"))), outcome{0, "\xff", 0})
	checkStrip(t, 2, string(Escape([]byte("ab"))), outcome{0, "b", 0})
	checkStrip(t, 2, string(Escape([]byte("\xffbc"))), outcome{0, "c", 0})
}

// stripText and escape are both calls as what is answered of bytes by a call, for what holds of both.
func stripText(state int) func(b []byte) []byte {
	return func(b []byte) []byte {
		_, text, _ := Strip(state, b)
		return text
	}
}

// P5.1, P5.2 with R3: what is handed in stays as it was, also behind its end, and shares no memory with what is answered.
func TestWhatIsHandedInStays(t *testing.T) {
	calls := []func(b []byte) []byte{Escape, stripText(0), stripText(1), stripText(2), stripText(-1)}
	for _, b := range []string{"", "a", "abcd", "\xff", "a\xff\xfd\x01b", "a\xff\xf2b\xff", "\xff\xff\xff\xff", "\xf2\xfb\xfe", everyByte()} {
		for _, call := range calls {
			const rest = "ahead and behind"
			whole := []byte(rest + b + rest)
			given := whole[len(rest) : len(rest)+len(b)]
			answer := call(given)
			if string(whole) != rest+b+rest {
				t.Errorf("%q became %q", rest+b+rest, whole)
			}
			told := string(answer)
			answer = append(answer, rest...)
			for i := range answer {
				answer[i] = '!'
			}
			if string(whole) != rest+b+rest {
				t.Errorf("%q became %q with what was answered", rest+b+rest, whole)
			}
			again := call(given)
			for i := range whole {
				whole[i] = '?'
			}
			if string(again) != told {
				t.Errorf("%q, answered of %q, became %q with what was handed in", told, b, again)
			}
		}
	}
}

// P5.1, P5.2 with R5: two answers share no memory, and the one does not hang on the other.
func TestAnswersAreApart(t *testing.T) {
	b := []byte("a\xff\xfd\x01b\xff\xffc")
	for _, call := range []func(b []byte) []byte{Escape, stripText(0), stripText(1), stripText(2)} {
		first := call(b)
		want := bytes.Clone(first)
		second := call(b)
		if !bytes.Equal(second, want) {
			t.Errorf("%q, then %q", want, second)
		}
		for i := range second {
			second[i] = '!'
		}
		if !bytes.Equal(first, want) {
			t.Errorf("%q became %q with another answer", want, first)
		}
	}
}
