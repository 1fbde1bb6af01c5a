package six

import (
	"fmt"
	"math"
	"regexp"
	"strconv"
	"strings"
	"testing"

	"wharfinger/api"
)

func end(a, b, c, d byte, port int) api.End {
	return api.End{Host: api.Host{a, b, c, d}, Port: port}
}

// writtenEnds are ends with their texts, written by hand: the chapter's example first, then the ports' edges and the parts'.
var writtenEnds = []struct {
	e api.End
	s string
}{
	{end(10, 0, 0, 1, 258), "10,0,0,1,1,2"},
	{end(0, 0, 0, 0, 0), "0,0,0,0,0,0"},
	{end(1, 2, 3, 4, 0), "1,2,3,4,0,0"},
	{end(1, 2, 3, 4, 1), "1,2,3,4,0,1"},
	{end(1, 2, 3, 4, 255), "1,2,3,4,0,255"},
	{end(1, 2, 3, 4, 256), "1,2,3,4,1,0"},
	{end(1, 2, 3, 4, 257), "1,2,3,4,1,1"},
	{end(1, 2, 3, 4, 511), "1,2,3,4,1,255"},
	{end(1, 2, 3, 4, 512), "1,2,3,4,2,0"},
	{end(1, 2, 3, 4, 1286), "1,2,3,4,5,6"},
	{end(192, 168, 0, 255, 21), "192,168,0,255,0,21"},
	{end(9, 10, 99, 100, 1023), "9,10,99,100,3,255"},
	{end(9, 10, 99, 100, 1024), "9,10,99,100,4,0"},
	{end(127, 128, 199, 200, 32767), "127,128,199,200,127,255"},
	{end(127, 128, 199, 200, 32768), "127,128,199,200,128,0"},
	{end(10, 0, 0, 1, 65279), "10,0,0,1,254,255"},
	{end(10, 0, 0, 1, 65280), "10,0,0,1,255,0"},
	{end(10, 0, 0, 1, 65534), "10,0,0,1,255,254"},
	{end(10, 0, 0, 1, 65535), "10,0,0,1,255,255"},
	{end(255, 255, 255, 255, 65535), "255,255,255,255,255,255"},
}

// strangePorts are those of ends that may not be: what lies beside the bounds, and numbers whose lower bytes alone would do.
var strangePorts = []int{
	-1, -2, -255, -256, -257, -65535, -65536, -65278, 65536, 65537, 65536 + 258, 2 * 65536, 1 << 24,
	1<<32 + 258, 1 << 32, -1 << 32, 1<<62 + 258, math.MinInt + 258, math.MinInt, math.MinInt + 1, math.MaxInt, math.MaxInt - 1,
}

func checkText(t *testing.T, e api.End, want string, wantIs bool) {
	t.Helper()
	if s, is := Text(e); s != want || is != wantIs {
		t.Errorf("Text(%v) = %q, %v, want %q, %v", e, s, is, want, wantIs)
	}
}

func short(s string) string {
	if len(s) > 60 {
		return s[:60] + ".."
	}
	return s
}

func checkRead(t *testing.T, s string, want api.End, wantIs bool) {
	t.Helper()
	if e, is := Read(s); e != want || is != wantIs {
		t.Errorf("Read(%q) = %v, %v, want %v, %v", short(s), e, is, want, wantIs)
	}
}

func checkFind(t *testing.T, s string, want api.End, wantIs bool) {
	t.Helper()
	if e, is := Find(s); e != want || is != wantIs {
		t.Errorf("Find(%q) = %v, %v, want %v, %v", short(s), e, is, want, wantIs)
	}
}

var sixNumbers = regexp.MustCompile(`^(0|[1-9][0-9]{0,2})(?:,(0|[1-9][0-9]{0,2})){5}$`)

// wantRead tells by a pattern which texts are ends, so that it is not told as Read tells it.
func wantRead(s string) (api.End, bool) {
	if !sixNumbers.MatchString(s) {
		return api.End{}, false
	}
	var n [6]int
	for i, part := range strings.Split(s, ",") {
		n[i], _ = strconv.Atoi(part)
		if n[i] > 255 {
			return api.End{}, false
		}
	}
	return end(byte(n[0]), byte(n[1]), byte(n[2]), byte(n[3]), n[4]<<8|n[5]), true
}

var firstBrackets = regexp.MustCompile(`^[^(]*\(([^)]*)\)`)

func wantFind(s string) (api.End, bool) {
	m := firstBrackets.FindStringSubmatch(s)
	if m == nil {
		return api.End{}, false
	}
	return wantRead(m[1])
}

// P3.1
func TestText(t *testing.T) {
	for _, x := range writtenEnds {
		checkText(t, x.e, x.s, true)
	}
}

// P3.1
func TestTextOfEveryPort(t *testing.T) {
	for port := range 65536 {
		checkText(t, end(10, 0, 0, 1, port), fmt.Sprintf("10,0,0,1,%d,%d", port>>8, port&255), true)
	}
}

// P3.1
func TestTextOfWhatMayNotBe(t *testing.T) {
	for _, port := range strangePorts {
		checkText(t, api.End{Port: port}, "", false)
		checkText(t, end(10, 0, 0, 1, port), "", false)
		checkText(t, end(255, 255, 255, 255, port), "", false)
	}
}

// P3.1
func TestRead(t *testing.T) {
	for _, x := range writtenEnds {
		checkRead(t, x.s, x.e, true)
	}
}

// wrongTexts are no Text of any end.
var wrongTexts = []string{
	"", ",", ",,,,,", ",,,,,,", "1", "1,2", "1,2,3,4", "1,2,3,4,5", "1,2,3,4,5,6,7", "1,2,3,4,5,6,7,8", "0,0,0,0,0", "0,0,0,0,0,0,0",
	"1,2,3,4,5,", ",1,2,3,4,5", ",1,2,3,4,5,6", "1,2,3,4,5,6,", "1,2,3,4,5,6,,", "1,2,,4,5,6", "1,2,,3,4,5,6", "1,,2,3,4,5", "1,,,,,6",
	"10,0,0,1,1,02", "10,0,0,1,01,2", "10,0,0,01,1,2", "010,0,0,1,1,2", "00,0,0,0,0,0", "0,0,0,0,0,00", "0,0,0,0,00,0", "10,0,0,1,1,002",
	"256,0,0,0,0,0", "0,256,0,0,0,0", "0,0,256,0,0,0", "0,0,0,256,0,0", "0,0,0,0,256,0", "0,0,0,0,0,256", "0,0,0,0,0,258", "1,2,3,4,5,999",
	"1,2,3,4,5,65536", "1,2,3,4,0,65535", "1,2,3,4,5,4294967296", "1,2,3,4,5,18446744073709551616", "1,2,3,4,5,0000000000000000006",
	"-1,2,3,4,5,6", "1,2,3,4,5,-6", "1,2,3,4,-0,6", "1,2,3,4,5,+6", "+1,2,3,4,5,6",
	" 1,2,3,4,5,6", "1,2,3,4,5,6 ", "1, 2,3,4,5,6", "1,2,3,4,5 ,6", "1,2,3,4,5,6\n", "1,2,3,4,5,6\r\n", "1,2,3,4,5,6\x00", "\t1,2,3,4,5,6",
	"1.2.3.4.5.6", "1.2.3.4,5,6", "1,2,3,4.5,6", "1,2,3,4,1286", "1.2.3.4:1286", "1;2;3;4;5;6", "1 2 3 4 5 6", "|1|1.2.3.4|1286|", "a,b,c,d,e,f", "0x1,2,3,4,5,6", "1,2,3,4,5,6x",
	"(1,2,3,4,5,6)", "(1,2,3,4,5,6", "1,2,3,4,5,6)", "\xff,2,3,4,5,6", "1,2,3,4,5,\u0666", "1\uff0c2\uff0c3\uff0c4\uff0c5\uff0c6",
	"1,2,3,4,5,6" + strings.Repeat(",7", 1<<16), strings.Repeat(",", 1<<16), strings.Repeat("1", 1<<16),
}

// P3.1
func TestReadWrong(t *testing.T) {
	for _, s := range wrongTexts {
		checkRead(t, s, api.End{}, false)
	}
}

// P3.1: one wrong part at each place spoils the end, whatever the other five are.
func TestReadWrongPart(t *testing.T) {
	for _, wrong := range []string{"", "00", "01", "007", "256", "257", "300", "999", "1000", "65535", "-1", "-0", "+1", " ", " 1", "1 ", "x", "1x", "x1", "0x1", "1_0", "1e1", "1.0", ".", "(", ")", "/", ":", "\x00", "\xff", "1,1", ",", "9223372036854775808"} {
		for place := range 6 {
			for _, other := range []string{"0", "7", "255"} {
				parts := []string{other, other, other, other, other, other}
				parts[place] = wrong
				checkRead(t, strings.Join(parts, ","), api.End{}, false)
			}
		}
	}
}

// P3.1: every byte at every place of a text: instead of what stands there, and ahead of it.
func TestReadEveryByte(t *testing.T) {
	for _, s := range []string{"10,0,0,1,1,2", "255,25,2,0,99,100"} {
		for place := range len(s) + 1 {
			for b := range 256 {
				one := string([]byte{byte(b)})
				texts := []string{s[:place] + one + s[place:]}
				if place < len(s) {
					texts = append(texts, s[:place]+one+s[place+1:], s[:place]+s[place+1:])
				}
				for _, text := range texts {
					want, wantIs := wantRead(text)
					checkRead(t, text, want, wantIs)
				}
			}
		}
	}
}

// P3.1: no end is written in two ways.
func TestReadIsOfOneText(t *testing.T) {
	alphabet := "0125,+- "
	var all func(s string, left int)
	all = func(s string, left int) {
		for _, text := range []string{s, "1,0,0," + s, s + ",0,1,9", "0,1," + s + ",0,1"} {
			want, wantIs := wantRead(text)
			checkRead(t, text, want, wantIs)
			if wantIs {
				checkText(t, want, text, true)
			}
		}
		for i := 0; left > 0 && i < len(alphabet); i++ {
			all(s+alphabet[i:i+1], left-1)
		}
	}
	all("", 5)
}

// P3.2
func TestFind(t *testing.T) {
	e := end(10, 0, 0, 1, 258)
	for _, s := range []string{
		"(10,0,0,1,1,2)", "227 Entering Passive Mode (10,0,0,1,1,2).", "Entering Passive Mode (10,0,0,1,1,2).", "x(10,0,0,1,1,2)", "(10,0,0,1,1,2)x",
		")(10,0,0,1,1,2)", ")))(10,0,0,1,1,2)", "a) b (10,0,0,1,1,2) c", "(10,0,0,1,1,2))", "(10,0,0,1,1,2)(", "(10,0,0,1,1,2)()",
		"(10,0,0,1,1,2)(1,2,3,4,5,6)", "(10,0,0,1,1,2) and (x)", "1,2,3,4,5,6 (10,0,0,1,1,2) 1,2,3,4,5,6", ")1,2,3,4,5,6)(10,0,0,1,1,2)",
		"\xff\x00(10,0,0,1,1,2)\xff", "\u00e9(10,0,0,1,1,2)\u00e9", strings.Repeat(")", 1<<16) + "(10,0,0,1,1,2)" + strings.Repeat("(", 1<<16),
	} {
		checkFind(t, s, e, true)
	}
	checkFind(t, "(0,0,0,0,0,0)", api.End{}, true)
	checkFind(t, "(255,255,255,255,255,255)", end(255, 255, 255, 255, 65535), true)
}

// P3.2: there are not both brackets, or what stands between the first ones is no end, whatever comes behind.
func TestFindWrong(t *testing.T) {
	for _, s := range []string{
		"", "10,0,0,1,1,2", "227 Entering Passive Mode 10,0,0,1,1,2", "(", ")", "(10,0,0,1,1,2", "10,0,0,1,1,2)", ")10,0,0,1,1,2(", ")(", ")(10,0,0,1,1,2", "10,0,0,1,1,2(",
		"()", "()10,0,0,1,1,2", "()(10,0,0,1,1,2)", "( )", "(x)(10,0,0,1,1,2)", "(x) (10,0,0,1,1,2)", "((10,0,0,1,1,2))", "((10,0,0,1,1,2)", "(()10,0,0,1,1,2)", "(x(10,0,0,1,1,2)",
		"( 10,0,0,1,1,2)", "(10,0,0,1,1,2 )", "(10,0,0,1,1,02)", "(10,0,0,1,1,256)", "(10,0,0,1,1)", "(10,0,0,1,1,2,3)", "(10,0,0,1,1,2(", "(10,0,0,1,1,2(3))",
		"[10,0,0,1,1,2]", "{10,0,0,1,1,2}", "<10,0,0,1,1,2>", "(10,0,0,1,1,2]", "[10,0,0,1,1,2)", "(|||258|)", "\uff0810,0,0,1,1,2\uff09",
		strings.Repeat("(", 1<<16), strings.Repeat(")", 1<<16), strings.Repeat("()", 1<<16), strings.Repeat("(", 1<<16) + strings.Repeat(")", 1<<16),
	} {
		checkFind(t, s, api.End{}, false)
	}
	for _, s := range wrongTexts {
		want, wantIs := wantFind("(" + s + ")")
		checkFind(t, "("+s+")", want, wantIs)
	}
}

// P3.2: brackets, ends and other text in every order, up to six of them.
func TestFindInEveryOrder(t *testing.T) {
	words := []string{"(", ")", "10,0,0,1,1,2", "1,2,3,4,5,6", "x"}
	var all func(s string, left int)
	all = func(s string, left int) {
		want, wantIs := wantFind(s)
		checkFind(t, s, want, wantIs)
		for i := 0; left > 0 && i < len(words); i++ {
			all(s+words[i], left-1)
		}
	}
	all("", 6)
}

func checkWrittenIsRead(t *testing.T, e api.End) {
	t.Helper()
	s, is := Text(e)
	if !is {
		t.Errorf("Text(%v) = %q, false", e, s)
		return
	}
	checkRead(t, s, e, true)
	checkFind(t, "("+s+")", e, true)
	checkFind(t, ") Entering Passive Mode ("+s+"). (x)", e, true)
}

// P3.3: every port, and every number of a byte at every place of the host.
func TestWrittenIsReadAndFound(t *testing.T) {
	for port := range 65536 {
		checkWrittenIsRead(t, end(192, 168, 0, 1, port))
	}
	others := []byte{0, 1, 10, 100, 255}
	for i := range 256 {
		for place := range 4 {
			for k := range others {
				h := api.Host{others[k], others[(k+1)%5], others[(k+2)%5], others[(k+3)%5]}
				h[place] = byte(i)
				checkWrittenIsRead(t, api.End{Host: h, Port: i*257 ^ k})
			}
		}
	}
}
