package ext

import (
	"errors"
	"fmt"
	"math"
	"regexp"
	"strconv"
	"strings"
	"testing"

	"wharfinger/api"
)

// marks are all there are, written out so that they are not told as isMark tells them.
const marks = "!\"#$%&'()*+,-./:;<=>?@ABCDEFGHIJKLMNOPQRSTUVWXYZ[\\]^_`abcdefghijklmnopqrstuvwxyz{|}~"

func end(a, b, c, d byte, port int) api.End {
	return api.End{Host: api.Host{a, b, c, d}, Port: port}
}

// writtenEnds are ends with their texts, written by hand: the chapter's example first, then the ports' edges and the hosts'.
var writtenEnds = []struct {
	e api.End
	s string
}{
	{end(10, 0, 0, 1, 80), "|1|10.0.0.1|80|"},
	{end(10, 0, 0, 1, 1), "|1|10.0.0.1|1|"},
	{end(10, 0, 0, 1, 2), "|1|10.0.0.1|2|"},
	{end(1, 2, 3, 4, 9), "|1|1.2.3.4|9|"},
	{end(1, 2, 3, 4, 10), "|1|1.2.3.4|10|"},
	{end(9, 10, 99, 100, 255), "|1|9.10.99.100|255|"},
	{end(9, 10, 99, 100, 256), "|1|9.10.99.100|256|"},
	{end(127, 128, 199, 200, 1023), "|1|127.128.199.200|1023|"},
	{end(127, 128, 199, 200, 1024), "|1|127.128.199.200|1024|"},
	{end(192, 168, 0, 255, 9999), "|1|192.168.0.255|9999|"},
	{end(192, 168, 0, 255, 10000), "|1|192.168.0.255|10000|"},
	{end(10, 0, 0, 1, 65534), "|1|10.0.0.1|65534|"},
	{end(10, 0, 0, 1, 65535), "|1|10.0.0.1|65535|"},
	{end(0, 0, 0, 0, 1), "|1|0.0.0.0|1|"},
	{end(255, 255, 255, 255, 65535), "|1|255.255.255.255|65535|"},
}

// strangePorts are none: what lies beside the bounds, and numbers whose lower bytes alone would do.
var strangePorts = []int{
	0, -1, -2, -80, -65535, -65536, 65536, 65537, 65536 + 80, 99999, 100000, 1 << 24, 1<<32 + 80, 1 << 32, -1 << 32,
	1<<62 + 80, math.MinInt + 80, math.MinInt, math.MinInt + 1, math.MaxInt, math.MaxInt - 1,
}

// wrongPorts are no number from 1 to 65535, and have no |.
var wrongPorts = []string{
	"", "0", "00", "01", "080", "0080", "065535", "65536", "65616", "99999", "100000", "4294967376", "18446744073709551696",
	"0000000000000000080", "000000000000000080", "1000000000000000000", "-1", "-80", "-0", "+80", " 80", "80 ", "8 0", "80\n", "80\r\n", "80\x00", "\t80",
	"x", "80x", "x80", "0x50", "8_0", "8e1", "80.0", ".", "80.", "80,", "/", ":", "80!", "!80", "\xff", "80\xff", "\u0668\u0660", "\uff18\uff10", "ftp",
}

// wrongHosts are no address, and have no |.
var wrongHosts = []string{
	"", ".", "...", "1", "10.0.0", "10.0.0.", ".0.0.1", ".10.0.0.1", "10.0.0.1.", "10.0.0.1.2", "10..0.1", "10.0.0.01", "010.0.0.1", "10.00.0.1",
	"256.0.0.1", "10.256.0.1", "10.0.256.1", "10.0.0.256", "10.0.0.999", "10.0.0.4294967297", "-10.0.0.1", "10.0.0.-1", "10.0.0.+1",
	" 10.0.0.1", "10.0.0.1 ", "10.0. 0.1", "10.0.0.1\n", "10.0.0.1\x00", "10,0,0,1", "10.0.0,1", "::1", "::ffff:10.0.0.1", "1080::8:800:200C:417A", "[10.0.0.1]",
	"a.b.c.d", "ftp.a", "0xa.0.0.1", "167772161", "!", "10.0.0!1", "\xff.0.0.1", "10.0.0.\u0661",
}

// wrongKinds are no number from 1 to 9, and have no |.
var wrongKinds = []string{
	"", "0", "00", "01", "02", "001", "10", "11", "12", "19", "20", "99", "100", "257", "65537", "4294967297", "18446744073709551617", "0000000000000000001",
	"-1", "-0", "-2", "+1", "+2", " 1", "1 ", " ", "2 ", "1\n", "1\x00", "x", "1x", "x1", "0x1", "1.0", "1.", ".1", "!", "1!", "/", ":", "a", "IP4", "\xff", "\u0661", "\uff11",
}

func short(s string) string {
	if len(s) > 60 {
		return s[:60] + ".."
	}
	return s
}

func checkText(t *testing.T, e api.End, want string, wantIs bool) {
	t.Helper()
	if s, is := Text(e); s != want || is != wantIs {
		t.Errorf("Text(%v) = %q, %v, want %q, %v", e, s, is, want, wantIs)
	}
}

func checkRead(t *testing.T, s string, want api.End, wantNo api.Errno) {
	t.Helper()
	if e, no := Read(s); e != want || no != wantNo {
		t.Errorf("Read(%q) = %v, %d, want %v, %d", short(s), e, no, want, wantNo)
	}
}

func checkPort(t *testing.T, n int, want string, wantIs bool) {
	t.Helper()
	if s, is := Port(n); s != want || is != wantIs {
		t.Errorf("Port(%d) = %q, %v, want %q, %v", n, s, is, want, wantIs)
	}
}

func checkFind(t *testing.T, s string, want int, wantIs bool) {
	t.Helper()
	if n, is := Find(s); n != want || is != wantIs {
		t.Errorf("Find(%q) = %d, %v, want %d, %v", short(s), n, is, want, wantIs)
	}
}

// byMark is a text with a mark in place of each |.
func byMark(s string, m byte) string {
	return strings.ReplaceAll(s, "|", string([]byte{m}))
}

// Patterns tell by a mark which texts are ends, and ports, so that they are not told as Read and Find tell them.
var (
	endsOf        = patterns(`(?s)\A|([^|]*)|([^|]*)|([^|]*)|\z`)
	portsOf       = patterns(`(?s)\A|||(.*)|\z`)
	kindOf        = regexp.MustCompile(`\A[1-9]\z`)
	hostOf        = regexp.MustCompile(`\A(0|[1-9][0-9]{0,2})\.(0|[1-9][0-9]{0,2})\.(0|[1-9][0-9]{0,2})\.(0|[1-9][0-9]{0,2})\z`)
	portOf        = regexp.MustCompile(`\A[1-9][0-9]{0,4}\z`)
	firstBrackets = regexp.MustCompile(`\A[^(]*\(([^)]*)\)`)
)

// patterns has, for each mark, the form with that mark in place of each |.
func patterns(form string) map[string]*regexp.Regexp {
	all := map[string]*regexp.Regexp{}
	for _, m := range strings.Split(marks, "") {
		all[m] = regexp.MustCompile(strings.ReplaceAll(form, "|", `\x`+strconv.FormatInt(int64(m[0]), 16)))
	}
	return all
}

// byPattern is what the pattern of a text's first byte finds in it; nil, if that byte is no mark, or nothing is found.
func byPattern(all map[string]*regexp.Regexp, s string) []string {
	if s == "" || all[s[:1]] == nil {
		return nil
	}
	return all[s[:1]].FindStringSubmatch(s)
}

func wantHost(s string) (api.Host, bool) {
	var h api.Host
	m := hostOf.FindStringSubmatch(s)
	if m == nil {
		return h, false
	}
	for i, part := range m[1:] {
		n, _ := strconv.Atoi(part)
		if n > 255 {
			return api.Host{}, false
		}
		h[i] = byte(n)
	}
	return h, true
}

func wantPort(s string) (int, bool) {
	if !portOf.MatchString(s) {
		return 0, false
	}
	n, _ := strconv.Atoi(s)
	if n > 65535 {
		return 0, false
	}
	return n, true
}

func wantRead(s string) (api.End, api.Errno) {
	m := byPattern(endsOf, s)
	if m == nil || !kindOf.MatchString(m[1]) {
		return api.End{}, api.ErrForm
	}
	if m[1] != "1" {
		return api.End{}, api.ErrKind
	}
	h, isHost := wantHost(m[2])
	n, isPort := wantPort(m[3])
	if !isHost || !isPort {
		return api.End{}, api.ErrForm
	}
	return api.End{Host: h, Port: n}, api.OK
}

func wantFind(s string) (int, bool) {
	b := firstBrackets.FindStringSubmatch(s)
	if b == nil {
		return 0, false
	}
	m := byPattern(portsOf, b[1])
	if m == nil {
		return 0, false
	}
	return wantPort(m[1])
}

// P4.1
func TestText(t *testing.T) {
	for _, x := range writtenEnds {
		checkText(t, x.e, x.s, true)
	}
}

// P4.1
func TestTextOfEveryPort(t *testing.T) {
	for n := 1; n <= 65535; n++ {
		checkText(t, end(10, 0, 0, 1, n), fmt.Sprintf("|1|10.0.0.1|%d|", n), true)
	}
}

// P4.1
func TestTextOfStrangePorts(t *testing.T) {
	for _, n := range strangePorts {
		checkText(t, api.End{Port: n}, "", false)
		checkText(t, end(10, 0, 0, 1, n), "", false)
		checkText(t, end(255, 255, 255, 255, n), "", false)
	}
}

// P4.1
func TestRead(t *testing.T) {
	for _, x := range writtenEnds {
		checkRead(t, x.s, x.e, api.OK)
	}
}

// P4.1: of the 256 bytes those that are marks, from 33 to 126 and no digits, and of them all but the dot, which every host has.
func TestReadByEveryByte(t *testing.T) {
	for b := range 256 {
		m := byte(b)
		is := b >= 33 && b <= 126 && !(b >= 48 && b <= 57)
		if is != (strings.IndexByte(marks, m) >= 0) {
			t.Fatalf("byte %d: marks are written wrong", b)
		}
		want, wantNo := api.End{}, api.ErrForm
		if is && m != '.' {
			want, wantNo = end(10, 0, 0, 1, 80), api.OK
		}
		checkRead(t, byMark("|1|10.0.0.1|80|", m), want, wantNo)
		wantNo = api.ErrForm
		if is {
			wantNo = api.ErrKind
		}
		checkRead(t, byMark("|2||80|", m), api.End{}, wantNo)
	}
	for _, s := range []string{"!1!10.0.0.1!80!", "~1~10.0.0.1~80~", "/1/10.0.0.1/80/", ":1:10.0.0.1:80:", "-1-10.0.0.1-80-", "+1+10.0.0.1+80+", "a1a10.0.0.1a80a", "(1(10.0.0.1(80("} {
		checkRead(t, s, end(10, 0, 0, 1, 80), api.OK)
	}
	for _, s := range []string{" 1 10.0.0.1 80 ", "\x7f1\x7f10.0.0.1\x7f80\x7f", "\x801\x8010.0.0.1\x8080\x80", "\x001\x0010.0.0.1\x0080\x00", "515.0.0.15805", "910910.0.0.198099", ".1.10.0.0.1.80."} {
		checkRead(t, s, api.End{}, api.ErrForm)
	}
}

// P4.1: 1 is an end's kind, 2 to 9 are others, and all else is none.
func TestReadKinds(t *testing.T) {
	checkRead(t, "|1|10.0.0.1|80|", end(10, 0, 0, 1, 80), api.OK)
	for kind := 2; kind <= 9; kind++ {
		checkRead(t, fmt.Sprintf("|%d|10.0.0.1|80|", kind), api.End{}, api.ErrKind)
		checkRead(t, fmt.Sprintf("~%d~::1~80~", kind), api.End{}, api.ErrKind)
	}
	for _, kind := range wrongKinds {
		checkRead(t, "|"+kind+"|10.0.0.1|80|", api.End{}, api.ErrForm)
		checkRead(t, "|"+kind+"|::1|80|", api.End{}, api.ErrForm)
		checkRead(t, "|"+kind+"||0|", api.End{}, api.ErrForm)
	}
}

// P4.1: a host or a port that is none is of another form, unless the kind is another one: that is told first.
func TestReadWrongHostsAndPorts(t *testing.T) {
	check := func(host, port string) {
		checkRead(t, "|1|"+host+"|"+port+"|", api.End{}, api.ErrForm)
		checkRead(t, "|2|"+host+"|"+port+"|", api.End{}, api.ErrKind)
		checkRead(t, "|9|"+host+"|"+port+"|", api.End{}, api.ErrKind)
		checkRead(t, "|0|"+host+"|"+port+"|", api.End{}, api.ErrForm)
		checkRead(t, "|10|"+host+"|"+port+"|", api.End{}, api.ErrForm)
	}
	for _, host := range wrongHosts {
		check(host, "80")
		for _, port := range wrongPorts {
			check(host, port)
		}
	}
	for _, port := range wrongPorts {
		check("10.0.0.1", port)
		check("255.255.255.255", port)
	}
	checkRead(t, "|2|::1|80|", api.End{}, api.ErrKind)
	checkRead(t, "|9||0|", api.End{}, api.ErrKind)
	checkRead(t, "|2|||", api.End{}, api.ErrKind)
	checkRead(t, "|1|||", api.End{}, api.ErrForm)
}

// P4.1: a text of other parts is of another form, also where its kind is another one.
func TestReadWrongForms(t *testing.T) {
	for _, s := range []string{
		"", "|", "||", "|||", "||||", "|||||", "||||||", "%", "1", "|%", "|%|", "%|", "|%|10.0.0.1", "|%|10.0.0.1|", "|%|10.0.0.1|80", "|%|10.0.0.1||80|", "|%||10.0.0.1|80|", "||%|10.0.0.1|80|",
		"%|10.0.0.1|80|", "%|10.0.0.1|80", "|10.0.0.1|80|", "|%|80|", "|%10.0.0.1|80|", "|%|10.0.0.180|", "|%|10.0.0.1|80||", "|%|10.0.0.1|80|80|", "|%|10.0.0.1|80|81", "|%|10.0.0.1|80| ", "|%|10.0.0.1|80|\r\n", "|%|10.0.0.1|80|\x00",
		" |%|10.0.0.1|80|", "\n|%|10.0.0.1|80|", "x|%|10.0.0.1|80|", "(|%|10.0.0.1|80|)", "|%|10.0.0.1|80!", "|%|10.0.0.1!80|", "|%!10.0.0.1|80|", "!%|10.0.0.1|80|", "|%!10.0.0.1!80|", "!%|10.0.0.1|80!", "|!%!10.0.0.1!80!|",
		"|%|10|0.0.1|80|", "|%|10.0.0.1|8|0|", "|%|10.0.0.1|80|%|10.0.0.1|80|", "10,0,0,1,0,80", "10.0.0.1:80", "(|||80|)", "|||80|", "\xa6%\xa610.0.0.1\xa680\xa6", "\u00a6%\u00a610.0.0.1\u00a680\u00a6",
		"|%|10.0.0.1|80|" + strings.Repeat("|", 1<<16), strings.Repeat("|", 1<<16), strings.Repeat("%", 1<<16),
	} {
		for _, kind := range []string{"1", "2", "9", "0", "10"} {
			checkRead(t, strings.ReplaceAll(s, "%", kind), api.End{}, api.ErrForm)
		}
	}
}

// P4.1: every byte at every place of a text: instead of what stands there, and ahead of it.
func TestReadEveryByteAtEveryPlace(t *testing.T) {
	for _, s := range []string{"|1|10.0.0.1|80|", "!1!255.25.2.0!65535!", "|2|::1|80|", "a9a10.0.0.1a1a"} {
		for place := range len(s) + 1 {
			for b := range 256 {
				one := string([]byte{byte(b)})
				texts := []string{s[:place] + one + s[place:]}
				if place < len(s) {
					texts = append(texts, s[:place]+one+s[place+1:], s[:place]+s[place+1:])
				}
				for _, text := range texts {
					want, wantNo := wantRead(text)
					checkRead(t, text, want, wantNo)
				}
			}
		}
	}
}

// P4.1: parts, marks and other text in every order, up to eight of them.
func TestReadInEveryOrder(t *testing.T) {
	words := []string{"|", "!", "1", "2", "10.0.0.1", "."}
	read := 0
	var all func(s string, left int)
	all = func(s string, left int) {
		want, wantNo := wantRead(s)
		checkRead(t, s, want, wantNo)
		if wantNo == api.OK {
			read++
		}
		for i := 0; left > 0 && i < len(words); i++ {
			all(s+words[i], left-1)
		}
	}
	all("", 8)
	if read == 0 {
		t.Error("no text was an end")
	}
}

// P4.2
func TestPort(t *testing.T) {
	for _, x := range []struct {
		n int
		s string
	}{
		{80, "(|||80|)"}, {1, "(|||1|)"}, {9, "(|||9|)"}, {10, "(|||10|)"}, {1023, "(|||1023|)"}, {1024, "(|||1024|)"}, {65534, "(|||65534|)"}, {65535, "(|||65535|)"},
	} {
		checkPort(t, x.n, x.s, true)
		checkFind(t, x.s, x.n, true)
	}
	for n := 1; n <= 65535; n++ {
		checkPort(t, n, fmt.Sprintf("(|||%d|)", n), true)
	}
	for _, n := range strangePorts {
		checkPort(t, n, "", false)
	}
}

// P4.2
func TestFind(t *testing.T) {
	for _, s := range []string{
		"(|||80|)", "229 Entering Extended Passive Mode (|||80|).", "Entering Extended Passive Mode (|||80|).", "x(|||80|)", "(|||80|)x",
		")(|||80|)", ")))(|||80|)", "a) b (|||80|) c", "(|||80|))", "(|||80|)(", "(|||80|)()", "(|||80|)(|||81|)", "(|||80|) and (x)", "|||81| (|||80|) |||81|", ")|||81|)(|||80|)",
		"(!!!80!)", "(~~~80~)", "(...80.)", "(---80-)", "(+++80+)", "(///80/)", "(:::80:)", "(aaa80a)", "((((80()", "((((80()(|||81|)",
		"\xff\x00(|||80|)\xff", "\u00e9(|||80|)\u00e9", strings.Repeat(")", 1<<16) + "(|||80|)" + strings.Repeat("(", 1<<16),
	} {
		checkFind(t, s, 80, true)
	}
}

// P4.2: there are not both brackets, or what stands between the first ones is no port, whatever comes behind.
func TestFindWrong(t *testing.T) {
	for _, s := range []string{
		"", "|||80|", "229 Entering Extended Passive Mode |||80|", "(", ")", "(|||80|", "|||80|)", ")|||80|(", ")(", ")(|||80|", "|||80|(",
		"()", "()|||80|", "()(|||80|)", "( )", "(x)(|||80|)", "(|||0|)(|||80|)", "(|||80)(|||80|)", "((|||80|))", "((|||80|)", "(()|||80|)", "(x(|||80|)",
		"(80)", "(80|)", "(|80|)", "(||80|)", "(||||80|)", "(|||||80|)", "(|||80)", "(|||80||)", "(|||80|||)", "(|||80|x)", "(|||80| )", "(|||80|80|)", "(|||80|81)", "( |||80|)", "(x|||80|)", "(||| 80|)", "(|||80 |)",
		"(|||80!)", "(!||80|)", "(|!|80|)", "(||!80|)", "(!!|80|)", "(|||!80|)", "(|||80!|)", "(!!!80|)", "(|)", "(||)", "(|||)", "(||||)", "(|||||)", "(|1||80|)", "(|||1|80|)", "(|1|10.0.0.1|80|)", "(||10.0.0.1|80|)", "(10,0,0,1,0,80)",
		"()))80))", "(((80()", "(((((80()", "[|||80|]", "{|||80|}", "<|||80|>", "(|||80|]", "[|||80|)", "\uff08|||80|\uff09", "(   80 )", "(\x7f\x7f\x7f80\x7f)", "(\x80\x80\x8080\x80)", "(\x00\x00\x0080\x00)", "(111801)", "(000800)", "(999809)", "(\u00a6\u00a6\u00a680\u00a6)",
		strings.Repeat("(", 1<<16), strings.Repeat(")", 1<<16), strings.Repeat("()", 1<<16), strings.Repeat("(", 1<<16) + strings.Repeat(")", 1<<16), "(" + strings.Repeat("|", 1<<16) + ")", "(|||" + strings.Repeat("8", 1<<16) + "|)",
	} {
		checkFind(t, s, 0, false)
	}
	for _, port := range wrongPorts {
		checkFind(t, "(|||"+port+"|)", 0, false)
		checkFind(t, "(~~~"+port+"~)", 0, false)
	}
}

// P4.2: of the 256 bytes those that are marks, but for the ) at which what stands in brackets ends.
func TestFindByEveryByte(t *testing.T) {
	for b := range 256 {
		m := byte(b)
		want := 0
		if m != ')' && strings.IndexByte(marks, m) >= 0 {
			want = 65535
		}
		checkFind(t, byMark("229 ok (|||65535|).", m), want, want > 0)
	}
}

// P4.2: every byte at every place of a text: instead of what stands there, and ahead of it.
func TestFindEveryByteAtEveryPlace(t *testing.T) {
	for _, s := range []string{"(|||80|)", "ok (!!!65535!).", "((((1()"} {
		for place := range len(s) + 1 {
			for b := range 256 {
				one := string([]byte{byte(b)})
				texts := []string{s[:place] + one + s[place:]}
				if place < len(s) {
					texts = append(texts, s[:place]+one+s[place+1:], s[:place]+s[place+1:])
				}
				for _, text := range texts {
					want, wantIs := wantFind(text)
					checkFind(t, text, want, wantIs)
				}
			}
		}
	}
}

// P4.2: brackets, marks and ports in every order, up to seven of them, and in brackets.
func TestFindInEveryOrder(t *testing.T) {
	words := []string{"(", ")", "|", "!", "80", "0"}
	found := 0
	var all func(s string, left int)
	all = func(s string, left int) {
		for _, text := range []string{s, "(" + s + ")"} {
			want, wantIs := wantFind(text)
			checkFind(t, text, want, wantIs)
			if wantIs {
				found++
			}
		}
		for i := 0; left > 0 && i < len(words); i++ {
			all(s+words[i], left-1)
		}
	}
	all("", 7)
	if found == 0 {
		t.Error("no text had a port")
	}
}

// checkWrittenIsRead asks for an end by every mark that its host does not have, and for its port by every mark that ends no brackets.
func checkWrittenIsRead(t *testing.T, e api.End) {
	t.Helper()
	s, is := Text(e)
	p, isPort := Port(e.Port)
	if !is || !isPort {
		t.Errorf("Text(%v) = %q, %v, Port(%d) = %q, %v", e, s, is, e.Port, p, isPort)
		return
	}
	for i := range len(marks) {
		if m := marks[i]; m != '.' {
			checkRead(t, byMark(s, m), e, api.OK)
		}
		if m := marks[i]; m != ')' {
			checkFind(t, "a) Entering Extended Passive Mode "+byMark(p, m)+". (x)", e.Port, true)
		}
	}
	checkRead(t, byMark(s, '.'), api.End{}, api.ErrForm)
}

// P4.3: every port, and every number of a byte at every place of the host.
func TestWrittenIsRead(t *testing.T) {
	for n := 1; n <= 65535; n++ {
		e := end(192, 168, byte(n), 1, n)
		s, _ := Text(e)
		checkRead(t, s, e, api.OK)
		checkRead(t, byMark(s, marks[n%13]), e, api.OK)
		p, _ := Port(n)
		checkFind(t, p, n, true)
		checkFind(t, byMark(p, marks[n%8]), n, true)
	}
	others := []byte{0, 1, 10, 100, 255}
	for i := range 256 {
		for place := range 4 {
			h := api.Host{others[i%5], others[(i+1)%5], others[(i+2)%5], others[(i+3)%5]}
			h[place] = byte(i)
			checkWrittenIsRead(t, api.End{Host: h, Port: 1 + (i*257^place)%65535})
		}
	}
}

// Why a text is none is told by a fault, which wraps what is wrong with the part that it names.
func TestFaults(t *testing.T) {
	for _, x := range []struct {
		s, part string
		why     error
	}{
		{"", "mark", errForm}, {" 1 10.0.0.1 80 ", "mark", errForm}, {"|1|10.0.0.1|80", "text", errForm}, {"|2|::1|80||", "text", errForm},
		{"|10|10.0.0.1|80|", "kind", errForm}, {"|2|::1|80|", "kind", errKind}, {"|1|10.0.0|0|", "host", errForm}, {"|1|10.0.0.1|0|", "port", errForm},
	} {
		_, err := readEnd(x.s)
		var f fault
		if !errors.As(err, &f) || f.part != x.part {
			t.Errorf("readEnd(%q): %v, want a fault of its %s", x.s, err, x.part)
			continue
		}
		if errors.Is(err, errForm) != (x.why == errForm) || errors.Is(err, errKind) != (x.why == errKind) {
			t.Errorf("readEnd(%q): %v, want that it wraps: %v", x.s, err, x.why)
		}
		if want := x.part + " " + x.why.Error(); err.Error() != want {
			t.Errorf("readEnd(%q): %q, want %q", x.s, err.Error(), want)
		}
	}
	if _, err := readEnd("|1|10.0.0.1|80|"); err != nil {
		t.Error(err)
	}
}
