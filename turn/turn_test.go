package turn

import (
	"errors"
	"fmt"
	"math"
	"math/rand"
	"reflect"
	"regexp"
	"slices"
	"strconv"
	"strings"
	"testing"

	"wharfinger/api"
	"wharfinger/cmd"
	"wharfinger/reply"
	"wharfinger/verb"
)

// The errors by the document's own numbers, so that a table by hand tells them.
const (
	ok, errArg, errOther, errDenied, errNoKind api.Errno = 0, 1, 2, 6, 8
)

// me is who tells in most tests.
var me = api.Host{10, 0, 0, 1}

// none is what is answered with an error.
var none = api.End{}

func end(a, b, c, d byte, port int) api.End {
	return api.End{Host: api.Host{a, b, c, d}, Port: port}
}

func c(verb, arg string) api.Cmd { return api.Cmd{Verb: verb, Arg: arg} }

func r(code int, lines ...string) api.Reply { return api.Reply{Code: code, Lines: lines} }

// written are ends with what tells each of them, by hand: the chapter's example first, then the ports' edges and the hosts'.
var written = []struct {
	e                      api.End
	six, ext, pasv, epsv   string
	mayTell, mayBeExtended bool
}{
	{end(10, 0, 0, 1, 2048), "10,0,0,1,8,0", "|1|10.0.0.1|2048|", "Entering Passive Mode (10,0,0,1,8,0).", "Entering Extended Passive Mode (|||2048|).", true, true},
	{end(10, 0, 0, 1, 1024), "10,0,0,1,4,0", "|1|10.0.0.1|1024|", "Entering Passive Mode (10,0,0,1,4,0).", "Entering Extended Passive Mode (|||1024|).", true, true},
	{end(10, 0, 0, 1, 1025), "10,0,0,1,4,1", "|1|10.0.0.1|1025|", "Entering Passive Mode (10,0,0,1,4,1).", "Entering Extended Passive Mode (|||1025|).", true, true},
	{end(10, 0, 0, 1, 65534), "10,0,0,1,255,254", "|1|10.0.0.1|65534|", "Entering Passive Mode (10,0,0,1,255,254).", "Entering Extended Passive Mode (|||65534|).", true, true},
	{end(10, 0, 0, 1, 65535), "10,0,0,1,255,255", "|1|10.0.0.1|65535|", "Entering Passive Mode (10,0,0,1,255,255).", "Entering Extended Passive Mode (|||65535|).", true, true},
	{end(10, 0, 0, 1, 1023), "10,0,0,1,3,255", "|1|10.0.0.1|1023|", "Entering Passive Mode (10,0,0,1,3,255).", "Entering Extended Passive Mode (|||1023|).", false, true},
	{end(10, 0, 0, 1, 1022), "10,0,0,1,3,254", "|1|10.0.0.1|1022|", "Entering Passive Mode (10,0,0,1,3,254).", "Entering Extended Passive Mode (|||1022|).", false, true},
	{end(10, 0, 0, 1, 80), "10,0,0,1,0,80", "|1|10.0.0.1|80|", "Entering Passive Mode (10,0,0,1,0,80).", "Entering Extended Passive Mode (|||80|).", false, true},
	{end(10, 0, 0, 1, 1), "10,0,0,1,0,1", "|1|10.0.0.1|1|", "Entering Passive Mode (10,0,0,1,0,1).", "Entering Extended Passive Mode (|||1|).", false, true},
	{end(10, 0, 0, 1, 0), "10,0,0,1,0,0", "|1|10.0.0.1|0|", "Entering Passive Mode (10,0,0,1,0,0).", "Entering Extended Passive Mode (|||0|).", false, false},
	{end(0, 0, 0, 0, 1024), "0,0,0,0,4,0", "|1|0.0.0.0|1024|", "Entering Passive Mode (0,0,0,0,4,0).", "Entering Extended Passive Mode (|||1024|).", true, true},
	{end(0, 0, 0, 0, 0), "0,0,0,0,0,0", "|1|0.0.0.0|0|", "Entering Passive Mode (0,0,0,0,0,0).", "Entering Extended Passive Mode (|||0|).", false, false},
	{end(255, 255, 255, 255, 65535), "255,255,255,255,255,255", "|1|255.255.255.255|65535|", "Entering Passive Mode (255,255,255,255,255,255).", "Entering Extended Passive Mode (|||65535|).", true, true},
	{end(9, 10, 99, 100, 10000), "9,10,99,100,39,16", "|1|9.10.99.100|10000|", "Entering Passive Mode (9,10,99,100,39,16).", "Entering Extended Passive Mode (|||10000|).", true, true},
	{end(1, 2, 3, 4, 9999), "1,2,3,4,39,15", "|1|1.2.3.4|9999|", "Entering Passive Mode (1,2,3,4,39,15).", "Entering Extended Passive Mode (|||9999|).", true, true},
	{end(127, 128, 199, 200, 4096), "127,128,199,200,16,0", "|1|127.128.199.200|4096|", "Entering Passive Mode (127,128,199,200,16,0).", "Entering Extended Passive Mode (|||4096|).", true, true},
}

// strangePorts are none to which data may go: those below, those beside the bounds, and numbers whose lower bytes alone would do.
var strangePorts = []int{
	math.MinInt, math.MinInt + 1, math.MinInt + 2048, -1 << 40, -1 << 32, -65536, -65535, -2048, -1024, -2, -1, 0, 1, 2, 80, 255, 256, 1022, 1023,
	65536, 65537, 65536 + 1024, 65536 + 2048, 99999, 1<<24 + 2048, 1 << 32, 1<<32 + 2048, 1<<62 + 2048, math.MaxInt - 1, math.MaxInt,
}

// strangeCodes are beside those that tell an end.
var strangeCodes = []int{
	math.MinInt, math.MinInt + 227, math.MinInt + 229, -229, -227, -1, 0, 1, 22, 27, 29, 100, 125, 150, 200, 220, 225, 226, 228, 230, 250, 257, 327, 329, 331, 350, 421, 425, 500, 522, 599, 2227, 2229, 2270, 2290, 1<<32 + 227, 1<<32 + 229, math.MaxInt - 1, math.MaxInt,
}

// badVerbs are none, or are written otherwise.
func badVerbs() []string {
	return []string{
		"", " ", "port", "eprt", "pasv", "epsv", "Port", "Eprt", "Pasv", "Epsv", "pORT", "PORt", "EPRt", "PASv", "EPSv", " PORT", "PORT ", "PORT\r\n", "PORT\x00", "\x00PORT", "EPRT ", " EPRT", "PASV ", " PASV", "EPSV ", " EPSV", "EPSV ALL", "PASV\n",
		"POR", "PORTS", "EPR", "EPRTS", "PAS", "PASVE", "EPS", "EPSVE", "PRT", "LPRT", "LPSV", "P", "E", "PORT 10,0,0,1,8,0", "PORTEPRT", "PASVEPSV", "SITE", "x", "227", "229", "\xff", "P\xd0\x9eRT", "\uff30\uff2f\uff32\uff34", strings.Repeat("PORT", 1<<12), strings.Repeat("\x00", 1<<12),
	}
}

// others are all verbs there are but two, and what is none.
func others(but ...string) []string {
	all := badVerbs()
	for _, v := range verb.All() {
		if !slices.Contains(but, v.Name) {
			all = append(all, v.Name)
		}
	}
	return all
}

func short(s string) string {
	if len(s) > 80 {
		return s[:80] + ".."
	}
	return s
}

func checkPoint(t *testing.T, c api.Cmd, peer api.Host, want api.End, wantNo api.Errno) {
	t.Helper()
	if e, no := Point(c, peer); e != want || no != wantNo {
		t.Errorf("Point(%q %q, %v) = %v, %d, want %v, %d", short(c.Verb), short(c.Arg), peer, e, no, want, wantNo)
	}
}

func checkListen(t *testing.T, verb string, r api.Reply, host api.Host, want api.End, wantNo api.Errno) {
	t.Helper()
	if e, no := Listen(verb, r, host); e != want || no != wantNo {
		t.Errorf("Listen(%q, %d %s, %v) = %v, %d, want %v, %d", short(verb), r.Code, short(fmt.Sprintf("%q", r.Lines)), host, e, no, want, wantNo)
	}
}

func checkAsk(t *testing.T, verb string, e api.End, want api.Cmd, wantIs bool) {
	t.Helper()
	if c, is := Ask(verb, e); c != want || is != wantIs {
		t.Errorf("Ask(%q, %v) = %q, %t, want %q, %t", short(verb), e, c, is, want, wantIs)
	}
}

func checkTell(t *testing.T, verb string, e api.End, want api.Reply, wantIs bool) {
	t.Helper()
	r, is := Tell(verb, e)
	if r.Code != want.Code || !slices.Equal(r.Lines, want.Lines) || is != wantIs {
		t.Errorf("Tell(%q, %v) = %+v, %t, want %+v, %t", short(verb), e, r, is, want, wantIs)
	}
}

// Patterns tell which texts are ends and ports, so that they are not told as six and ext tell them.
var (
	byteOf     = `(0|[1-9][0-9]?|1[0-9][0-9]|2[0-4][0-9]|25[0-5])`
	sixOf      = regexp.MustCompile(`\A` + strings.Repeat(byteOf+",", 5) + byteOf + `\z`)
	hostOf     = regexp.MustCompile(`\A` + strings.Repeat(byteOf+`\.`, 3) + byteOf + `\z`)
	portOf     = regexp.MustCompile(`\A[1-9][0-9]{0,4}\z`)
	inBrackets = regexp.MustCompile(`\A[^(]*\(([^)]*)\)`)
)

func bytesOf(found []string) []byte {
	var all []byte
	for _, s := range found[1:] {
		n, _ := strconv.Atoi(s)
		all = append(all, byte(n))
	}
	return all
}

func wantSix(s string) (api.End, api.Errno) {
	found := sixOf.FindStringSubmatch(s)
	if found == nil {
		return none, errOther
	}
	b := bytesOf(found)
	return end(b[0], b[1], b[2], b[3], 256*int(b[4])+int(b[5])), ok
}

func wantPort(s string) (int, api.Errno) {
	n, _ := strconv.Atoi(s)
	if !portOf.MatchString(s) || n > 65535 {
		return 0, errOther
	}
	return n, ok
}

// isMark is by the document's own numbers.
func isMark(s string) bool {
	return s >= "!" && s < "\x7f" && !strings.Contains("0123456789", s)
}

func wantExt(s string) (api.End, api.Errno) {
	if s == "" || !isMark(s[:1]) {
		return none, errOther
	}
	parts := strings.Split(s, s[:1])
	if len(parts) != 5 || parts[4] != "" || len(parts[1]) != 1 || !strings.Contains("123456789", parts[1]) {
		return none, errOther
	}
	if parts[1] != "1" {
		return none, errNoKind
	}
	host := hostOf.FindStringSubmatch(parts[2])
	n, no := wantPort(parts[3])
	if host == nil || no != ok {
		return none, errOther
	}
	b := bytesOf(host)
	return end(b[0], b[1], b[2], b[3], n), ok
}

func wantInside(s string) string {
	found := inBrackets.FindStringSubmatch(s)
	if found == nil {
		return ""
	}
	return found[1]
}

func wantMarked(s string) (int, api.Errno) {
	if len(s) < 5 || !isMark(s[:1]) || s[:3] != strings.Repeat(s[:1], 3) || s[len(s)-1:] != s[:1] {
		return 0, errOther
	}
	return wantPort(s[3 : len(s)-1])
}

// allowed is what an end that was read has to lead to.
func allowed(e api.End, no api.Errno, who api.Host) (api.End, api.Errno) {
	if no == ok && (e.Host != who || e.Port < 1024) {
		no = errDenied
	}
	if no != ok {
		return none, no
	}
	return e, ok
}

// wantPoint is Point as the tests have it.
func wantPoint(c api.Cmd, peer api.Host) (api.End, api.Errno) {
	if c.Verb != "PORT" && c.Verb != "EPRT" {
		return none, errArg
	}
	e, no := wantSix(c.Arg)
	if c.Verb == "EPRT" {
		e, no = wantExt(c.Arg)
	}
	return allowed(e, no, peer)
}

// wantListen is Listen as the tests have it.
func wantListen(verb string, r api.Reply, host api.Host) (api.End, api.Errno) {
	code := map[string]int{"PASV": 227, "EPSV": 229}[verb]
	if code == 0 {
		return none, errArg
	}
	if len(r.Lines) != 1 || r.Code != code {
		return none, errOther
	}
	in := wantInside(r.Lines[0])
	if code == 227 {
		e, no := wantSix(in)
		return allowed(e, no, host)
	}
	n, no := wantMarked(in)
	return allowed(api.End{Host: host, Port: n}, no, host)
}

// wantAsk is Ask as the tests have it.
func wantAsk(verb string, e api.End) (api.Cmd, bool) {
	h := e.Host
	arg := map[string]string{
		"PORT": fmt.Sprintf("%d,%d,%d,%d,%d,%d", h[0], h[1], h[2], h[3], e.Port>>8, e.Port&255),
		"EPRT": fmt.Sprintf("|1|%d.%d.%d.%d|%d|", h[0], h[1], h[2], h[3], e.Port),
	}[verb]
	if arg == "" || e.Port < 1024 || e.Port > 65535 {
		return api.Cmd{}, false
	}
	return c(verb, arg), true
}

// wantTell is Tell as the tests have it.
func wantTell(verb string, e api.End) (api.Reply, bool) {
	if e.Port < 1024 || e.Port > 65535 {
		return api.Reply{}, false
	}
	h := e.Host
	switch verb {
	case "PASV":
		return r(227, fmt.Sprintf("Entering Passive Mode (%d,%d,%d,%d,%d,%d).", h[0], h[1], h[2], h[3], e.Port>>8, e.Port&255)), true
	case "EPSV":
		return r(229, fmt.Sprintf("Entering Extended Passive Mode (|||%d|).", e.Port)), true
	}
	return api.Reply{}, false
}

// ofItsHost is what has to be answered of an end that its own host tells: the end, or an error, which may be another one where it is not told by six numbers.
func ofItsHost(e api.End, mayTell, mayBeExtended bool) (want api.End, no, extNo api.Errno) {
	switch {
	case mayTell:
		return e, ok, ok
	case mayBeExtended:
		return none, errDenied, errDenied
	}
	return none, errDenied, errOther
}

func checkPointAsWanted(t *testing.T, c api.Cmd, peer api.Host) api.Errno {
	t.Helper()
	want, wantNo := wantPoint(c, peer)
	checkPoint(t, c, peer, want, wantNo)
	return wantNo
}

func checkListenAsWanted(t *testing.T, verb string, r api.Reply, host api.Host) api.Errno {
	t.Helper()
	want, wantNo := wantListen(verb, r, host)
	checkListen(t, verb, r, host, want, wantNo)
	return wantNo
}

func checkAskAsWanted(t *testing.T, verb string, e api.End) bool {
	t.Helper()
	want, wantIs := wantAsk(verb, e)
	checkAsk(t, verb, e, want, wantIs)
	return wantIs
}

func checkTellAsWanted(t *testing.T, verb string, e api.End) bool {
	t.Helper()
	want, wantIs := wantTell(verb, e)
	checkTell(t, verb, e, want, wantIs)
	return wantIs
}

// The chapter's examples.
func TestExamples(t *testing.T) {
	checkPoint(t, c("PORT", "10,0,0,1,8,0"), api.Host{10, 0, 0, 1}, end(10, 0, 0, 1, 2048), 0)
	checkPoint(t, c("PORT", "10,0,0,1,8,0"), api.Host{10, 0, 0, 2}, none, 6)
}

// P19.1: an end is told by who has its host, unless its port is below 1024; 0 is no port of EPRT's.
func TestPoint(t *testing.T) {
	for _, x := range written {
		want, no, extNo := ofItsHost(x.e, x.mayTell, x.mayBeExtended)
		checkPoint(t, c("PORT", x.six), x.e.Host, want, no)
		checkPoint(t, c("EPRT", x.ext), x.e.Host, want, extNo)
		checkPointAsWanted(t, c("PORT", x.six), x.e.Host)
		checkPointAsWanted(t, c("EPRT", x.ext), x.e.Host)
		// Of the other verb that is none.
		checkPoint(t, c("PORT", x.ext), x.e.Host, none, errOther)
		checkPoint(t, c("EPRT", x.six), x.e.Host, none, errOther)
	}
}

// P19.1: every port.
func TestPointOfEveryPort(t *testing.T) {
	fine := 0
	for n := range 65536 {
		want, no, extNo := ofItsHost(end(10, 0, 0, 1, n), n >= 1024, n >= 1)
		if no == ok {
			fine++
		}
		checkPoint(t, c("PORT", fmt.Sprintf("10,0,0,1,%d,%d", n>>8, n&255)), me, want, no)
		checkPoint(t, c("EPRT", fmt.Sprintf("|1|10.0.0.1|%d|", n)), me, want, extNo)
		checkPoint(t, c("PORT", fmt.Sprintf("10,0,0,1,%d,%d", n>>8, n&255)), api.Host{10, 0, 0, 2}, none, errDenied)
	}
	if fine != 64512 {
		t.Errorf("%d ports may be told, want 64512", fine)
	}
}

// P19.1: by EPRT numbers are told that are no ports.
func TestPointOfStrangePorts(t *testing.T) {
	for _, n := range strangePorts {
		want := errOther
		if n >= 1 && n <= 1023 {
			want = errDenied
		}
		checkPoint(t, c("EPRT", fmt.Sprintf("|1|10.0.0.1|%d|", n)), me, none, want)
	}
}

// otherHosts are those that differ from one in one number, and in which two numbers are exchanged.
func otherHosts(h api.Host) []api.Host {
	var all []api.Host
	for place := range 4 {
		for b := range 256 {
			x := h
			x[place] = byte(b)
			all = append(all, x)
		}
		for other := range 4 {
			x := h
			x[place], x[other] = h[other], h[place]
			all = append(all, x)
		}
	}
	all = append(all, api.Host{}, api.Host{255, 255, 255, 255}, api.Host{h[3], h[2], h[1], h[0]})
	return slices.DeleteFunc(all, func(x api.Host) bool { return x == h })
}

// P19.1: from a peer that differs in each one of the four numbers, and from that which is named.
func TestPointOfOtherPeers(t *testing.T) {
	for _, x := range written {
		peers := otherHosts(x.e.Host)
		if len(peers) < 4*255 {
			t.Fatalf("just %d others of %v", len(peers), x.e.Host)
		}
		for _, peer := range peers {
			checkPoint(t, c("PORT", x.six), peer, none, errDenied)
			want := errDenied
			if !x.mayBeExtended {
				want = errOther
			}
			checkPoint(t, c("EPRT", x.ext), peer, none, want)
		}
	}
}

// P19.1: an end as its parts, each of which alone is wrong.
func TestPointOfWrongParts(t *testing.T) {
	parts := []string{"10", "0", "0", "1", "8", "0"}
	wrong := []string{"", "x", "-1", "-0", "+1", "256", "999", "00", "01", "08", "010", "1000", " 1", "1 ", "1.0", "0x1", "4294967297", "\xff", "\x00", "1\r\n", "\u0661"}
	for place := range parts {
		for _, w := range wrong {
			some := slices.Clone(parts)
			some[place] = w
			checkPoint(t, c("PORT", strings.Join(some, ",")), me, none, errOther)
		}
		less := slices.Delete(slices.Clone(parts), place, place+1)
		checkPoint(t, c("PORT", strings.Join(less, ",")), me, none, errOther)
		more := slices.Insert(slices.Clone(parts), place, "0")
		checkPoint(t, c("PORT", strings.Join(more, ",")), me, none, errOther)
	}
	// A kind of 0 is of another form, and one of 2 of another kind.
	for _, x := range []struct {
		kind, host, port string
		no               api.Errno
	}{
		{"1", "10.0.0.1", "2048", ok},
		{"", "10.0.0.1", "2048", errOther}, {"0", "10.0.0.1", "2048", errOther}, {"10", "10.0.0.1", "2048", errOther}, {"x", "10.0.0.1", "2048", errOther}, {"01", "10.0.0.1", "2048", errOther}, {"-1", "10.0.0.1", "2048", errOther}, {"+1", "10.0.0.1", "2048", errOther}, {"1 ", "10.0.0.1", "2048", errOther}, {" 1", "10.0.0.1", "2048", errOther}, {"11", "10.0.0.1", "2048", errOther},
		{"2", "10.0.0.1", "2048", errNoKind}, {"3", "10.0.0.1", "2048", errNoKind}, {"4", "10.0.0.1", "2048", errNoKind}, {"5", "10.0.0.1", "2048", errNoKind}, {"6", "10.0.0.1", "2048", errNoKind}, {"7", "10.0.0.1", "2048", errNoKind}, {"8", "10.0.0.1", "2048", errNoKind}, {"9", "10.0.0.1", "2048", errNoKind},
		{"1", "", "2048", errOther}, {"1", "10.0.0", "2048", errOther}, {"1", "10.0.0.1.2", "2048", errOther}, {"1", "10.0.0.256", "2048", errOther}, {"1", "10.0.0.01", "2048", errOther}, {"1", "010.0.0.1", "2048", errOther}, {"1", "10,0,0,1", "2048", errOther}, {"1", "::1", "2048", errOther}, {"1", "10.0.0.1 ", "2048", errOther}, {"1", "ftp.a", "2048", errOther}, {"1", "10.0..1", "2048", errOther}, {"1", "10.0.0.-1", "2048", errOther},
		{"1", "10.0.0.1", "", errOther}, {"1", "10.0.0.1", "0", errOther}, {"1", "10.0.0.1", "65536", errOther}, {"1", "10.0.0.1", "02048", errOther}, {"1", "10.0.0.1", "-2048", errOther}, {"1", "10.0.0.1", "+2048", errOther}, {"1", "10.0.0.1", " 2048", errOther}, {"1", "10.0.0.1", "2048 ", errOther}, {"1", "10.0.0.1", "x", errOther}, {"1", "10.0.0.1", "8,0", errOther}, {"1", "10.0.0.1", "4294969344", errOther}, {"1", "10.0.0.1", "18446744073709553664", errOther},
		{"2", "::1", "2048", errNoKind}, {"2", "", "", errNoKind}, {"9", "x", "80", errNoKind}, {"2", "10.0.0.2", "80", errNoKind}, {"0", "::1", "0", errOther},
	} {
		want := none
		if x.no == ok {
			want = end(10, 0, 0, 1, 2048)
		}
		for _, m := range []string{"|", "!", "~", "/", "-", "a", "Z", ",", ":", "(", ")"} {
			if strings.Contains(x.kind+x.host+x.port, m) {
				continue
			}
			checkPoint(t, c("EPRT", m+x.kind+m+x.host+m+x.port+m), me, want, x.no)
			checkPoint(t, c("PORT", m+x.kind+m+x.host+m+x.port+m), me, none, errOther)
		}
	}
}

// badEnds are told by neither verb.
func badEnds() []string {
	return []string{
		"", " ", ",", ",,,,,", "x", "10", "10,0,0,1", "10,0,0,1,8", "10,0,0,1,8,0,", ",10,0,0,1,8,0", "10,0,0,1,8,0,0", "10,0,0,1,8,0 ", " 10,0,0,1,8,0", "10, 0, 0, 1, 8, 0", "10 0 0 1 8 0", "10.0.0.1.8.0", "10.0.0.1:2048", "10.0.0.1,8,0", "10.0.0.1,2048", "(10,0,0,1,8,0)", "10,0,0,1,8,0)", "(10,0,0,1,8,0", "10,0,0,1,8,256", "10,0,0,1,256,0", "256,0,0,1,8,0", "10;0;0;1;8;0",
		"10,0,0,1,8,0\r\n", "10,0,0,1,8,0\n", "10,0,0,1,8,0\x00", "10,0,0,1,2048", "PORT 10,0,0,1,8,0", "10,0,0,1,8,0 10,0,0,1,8,0", "10,0,0,1,08,0", "10,0,0,1,8,00",
		"|", "||||", "|||||", "|1|10.0.0.1|2048", "1|10.0.0.1|2048|", "|1|10.0.0.1|2048||", "||1|10.0.0.1|2048|", "|1|10.0.0.1|2048| ", " |1|10.0.0.1|2048|", "|1|10.0.0.1|2048|\r\n", "|1|10.0.0.1|2048|x", "|1|10.0.0.1!2048|", "|1!10.0.0.1|2048|", "!1|10.0.0.1|2048|", "|10.0.0.1|2048|", "|1|10.0.0.1|", "|1|2048|", "(|1|10.0.0.1|2048|)", "(|||2048|)", "|||2048|", "|1|10.0.0.1|2048|1|", ".1.10.0.0.1.2048.", "010.0.0.10204800", " 1 10.0.0.1 2048 ", "\x7f1\x7f10.0.0.1\x7f2048\x7f", "\xff1\xff10.0.0.1\xff2048\xff", "\x001\x0010.0.0.1\x002048\x00",
		"ALL", "\xff", "\x00", "\r\n", strings.Repeat("1", 1<<12), strings.Repeat(",", 1<<12), strings.Repeat("|", 1<<12), strings.Repeat("10,", 1<<12), strings.Repeat("|1|10.0.0.1|2048|", 1<<9), "10,0,0,1,8," + strings.Repeat("0", 1<<12),
	}
}

// P19.1: what is no end at all.
func TestPointOfNoEnd(t *testing.T) {
	for _, arg := range badEnds() {
		for _, peer := range []api.Host{{}, me, {10, 0, 0, 2}} {
			checkPoint(t, c("PORT", arg), peer, none, errOther)
			checkPoint(t, c("EPRT", arg), peer, none, errOther)
		}
	}
}

// P19.1, R2: of every other verb there is, of small letters, and of none, whatever the Arg is.
func TestPointOfOtherVerbs(t *testing.T) {
	verbs := others("PORT", "EPRT")
	if len(verbs) != 34+len(badVerbs()) {
		t.Fatalf("%d verbs", len(verbs))
	}
	args := []string{"10,0,0,1,8,0", "|1|10.0.0.1|2048|", "10,0,0,2,8,0", "10,0,0,1,0,80", "|2|::1|2048|", "|1|10.0.0.1|80|", "Entering Passive Mode (10,0,0,1,8,0).", "(|||2048|)", "", "x", "\xff", " "}
	for _, v := range verbs {
		for _, arg := range args {
			checkPoint(t, c(v, arg), me, none, errArg)
			checkPoint(t, c(v, arg), api.Host{}, none, errArg)
		}
	}
}

// P19.1, R2: of another form, or kind, is told ahead of what is denied.
func TestPointTellsTheFirst(t *testing.T) {
	other := api.Host{10, 0, 0, 2}
	for _, x := range []struct {
		verb, arg string
		peer      api.Host
		no        api.Errno
	}{
		{"PORT", "10,0,0,1,0,80", other, errDenied}, {"PORT", "10,0,0,1,0,80,1", other, errOther}, {"PORT", "10,0,0,1,0,256", me, errOther}, {"PORT", "10,0,0,1,0,0", me, errDenied}, {"PORT", "10,0,0,1,0,0", other, errDenied},
		{"EPRT", "|1|10.0.0.1|80|", other, errDenied}, {"EPRT", "|1|10.0.0.1|0|", other, errOther}, {"EPRT", "|1|10.0.0.1|0|", me, errOther}, {"EPRT", "|2|10.0.0.1|80|", other, errNoKind}, {"EPRT", "|2|10.0.0.1|80|", me, errNoKind}, {"EPRT", "|2|10.0.0.1|0|", other, errNoKind}, {"EPRT", "|0|10.0.0.1|0|", other, errOther}, {"EPRT", "|2|10.0.0.1|80", other, errOther}, {"EPRT", "|1|10.0.0.256|80|", other, errOther},
		{"eprt", "|2|10.0.0.1|80|", other, errArg}, {"port", "x", other, errArg}, {"", "", other, errArg}, {"PASV", "|2|10.0.0.1|80", other, errArg}, {"EPSV", "10,0,0,1,0,80", other, errArg},
	} {
		checkPoint(t, c(x.verb, x.arg), x.peer, none, x.no)
	}
}

// P19.1: every byte at every place of an Arg: instead of what stands there, ahead of it, and without it.
func TestPointEveryByteAtEveryPlace(t *testing.T) {
	counts := map[api.Errno]int{}
	for _, x := range []api.Cmd{c("PORT", "10,0,0,1,8,0"), c("PORT", "10,0,0,1,255,255"), c("EPRT", "|1|10.0.0.1|2048|"), c("EPRT", "!1!10.0.0.1!65535!"), c("EPRT", "|2|::1|2048|")} {
		for _, arg := range changed(x.Arg) {
			counts[checkPointAsWanted(t, c(x.Verb, arg), me)]++
		}
	}
	for _, no := range []api.Errno{ok, errOther, errDenied, errNoKind} {
		if counts[no] < 10 {
			t.Errorf("just %d of %d", counts[no], no)
		}
	}
}

// changed are texts that differ from one by a byte.
func changed(s string) []string {
	var all []string
	for place := range len(s) + 1 {
		for b := range 256 {
			one := string([]byte{byte(b)})
			all = append(all, s[:place]+one+s[place:])
			if place < len(s) {
				all = append(all, s[:place]+one+s[place+1:])
			}
		}
		if place < len(s) {
			all = append(all, s[:place]+s[place+1:])
		}
	}
	return all
}

// P19.2: an end is told by who has its host, and a port of EPSV is of who told it; neither, if the port is below 1024.
func TestListen(t *testing.T) {
	for _, x := range written {
		want, no, extNo := ofItsHost(x.e, x.mayTell, x.mayBeExtended)
		checkListen(t, "PASV", r(227, x.pasv), x.e.Host, want, no)
		checkListen(t, "EPSV", r(229, x.epsv), x.e.Host, want, extNo)
		checkListen(t, "PASV", r(227, "("+x.six+")"), x.e.Host, want, no)
		checkListenAsWanted(t, "PASV", r(227, x.pasv), x.e.Host)
		checkListenAsWanted(t, "EPSV", r(229, x.epsv), x.e.Host)
		// In another form, and of the other verb, that is none.
		checkListen(t, "PASV", r(227, x.epsv), x.e.Host, none, errOther)
		checkListen(t, "EPSV", r(229, x.pasv), x.e.Host, none, errOther)
		checkListen(t, "PASV", r(227, x.six), x.e.Host, none, errOther)
		checkListen(t, "EPSV", r(229, "("+x.ext+")"), x.e.Host, none, errOther)
	}
}

// P19.2: every port.
func TestListenOfEveryPort(t *testing.T) {
	for n := range 65536 {
		want, no, extNo := ofItsHost(end(10, 0, 0, 1, n), n >= 1024, n >= 1)
		checkListen(t, "PASV", r(227, fmt.Sprintf("(10,0,0,1,%d,%d)", n>>8, n&255)), me, want, no)
		checkListen(t, "EPSV", r(229, fmt.Sprintf("(|||%d|)", n)), me, want, extNo)
		checkListen(t, "PASV", r(227, fmt.Sprintf("(10,0,0,1,%d,%d)", n>>8, n&255)), api.Host{11, 0, 0, 1}, none, errDenied)
	}
	for _, n := range strangePorts {
		want := errOther
		if n >= 1 && n <= 1023 {
			want = errDenied
		}
		checkListen(t, "EPSV", r(229, fmt.Sprintf("(|||%d|)", n)), me, none, want)
	}
}

// P19.2: of a host that differs in each one of its four numbers a reply to PASV tells no end; one to EPSV tells that host's own.
func TestListenOfOtherHosts(t *testing.T) {
	for _, x := range written {
		for _, host := range otherHosts(x.e.Host) {
			checkListen(t, "PASV", r(227, x.pasv), host, none, errDenied)
			switch {
			case x.mayTell:
				checkListen(t, "EPSV", r(229, x.epsv), host, api.End{Host: host, Port: x.e.Port}, ok)
			case x.mayBeExtended:
				checkListen(t, "EPSV", r(229, x.epsv), host, none, errDenied)
			default:
				checkListen(t, "EPSV", r(229, x.epsv), host, none, errOther)
			}
		}
	}
}

// P19.2: the right code, all others that a reply may have, those just beside, the other verb's, 0, and both ends of int.
func TestListenOfEveryCode(t *testing.T) {
	codes := slices.Clone(strangeCodes)
	for code := -10; code <= 1010; code++ {
		codes = append(codes, code)
	}
	both := "(10,0,0,1,8,0)"
	for _, code := range codes {
		pasv, no := none, errOther
		if code == 227 {
			pasv, no = end(10, 0, 0, 1, 2048), ok
		}
		epsv, extNo := none, errOther
		if code == 229 {
			epsv, extNo = end(10, 0, 0, 1, 2048), ok
		}
		checkListen(t, "PASV", r(code, both), me, pasv, no)
		checkListen(t, "EPSV", r(code, "(|||2048|)"), me, epsv, extNo)
		// What would be denied is of another form first.
		if code != 227 {
			checkListen(t, "PASV", r(code, "(10,0,0,1,0,80)"), api.Host{10, 0, 0, 2}, none, errOther)
		}
		if code != 229 {
			checkListen(t, "EPSV", r(code, "(|||80|)"), me, none, errOther)
		}
	}
}

// P19.2: no line, one, and more, of which whichever has an end.
func TestListenOfLines(t *testing.T) {
	for _, x := range []struct {
		verb, s string
		code    int
	}{{"PASV", "(10,0,0,1,8,0)", 227}, {"EPSV", "(|||2048|)", 229}} {
		checkListen(t, x.verb, r(x.code, x.s), me, end(10, 0, 0, 1, 2048), ok)
		checkListen(t, x.verb, api.Reply{Code: x.code}, me, none, errOther)
		checkListen(t, x.verb, api.Reply{Code: x.code, Lines: []string{}}, me, none, errOther)
		checkListen(t, x.verb, api.Reply{Code: x.code, Lines: []string{x.s, x.s}[:0]}, me, none, errOther)
		checkListen(t, x.verb, api.Reply{Code: x.code, Lines: []string{x.s, x.s}[:1]}, me, end(10, 0, 0, 1, 2048), ok)
		for n := 2; n <= 25; n++ {
			for place := range n {
				lines := make([]string, n)
				checkListen(t, x.verb, r(x.code, lines...), me, none, errOther)
				lines[place] = x.s
				checkListen(t, x.verb, r(x.code, lines...), me, none, errOther)
			}
			checkListen(t, x.verb, r(x.code, slices.Repeat([]string{x.s}, n)...), me, none, errOther)
		}
		// What two lines have is in none of them.
		checkListen(t, x.verb, r(x.code, x.s[:5], x.s[5:]), me, none, errOther)
		checkListen(t, x.verb, r(x.code, "", ""), me, none, errOther)
		checkListen(t, x.verb, r(x.code, ""), me, none, errOther)
		checkListen(t, x.verb, r(x.code, "(10,0,0,1,0,80)", "(|||80|)"), api.Host{}, none, errOther)
	}
}

// P19.2: text ahead and behind changes nothing, but brackets do.
func TestListenInText(t *testing.T) {
	for _, x := range []struct {
		ahead, behind string
		is            bool
	}{
		{"", "", true}, {"Entering Passive Mode ", ".", true}, {"227 Entering Passive Mode ", "", true}, {"ok", "ok", true}, {")", "", true}, {"a) b ", " c", true}, {"", ")", true}, {"", "(", true}, {"", "()", true}, {"", "(x)", true}, {"", "(10,0,0,2,8,0)(|||80|)", true}, {"10,0,0,2,8,0 |||80| ", "", true}, {"\xff\x00", "\r\n", true}, {"\u00e9", "\u00e9", true}, {strings.Repeat(")", 1<<12), strings.Repeat("(", 1<<12), true}, {strings.Repeat("x", 600), "", true},
		{"(", "", false}, {"(", ")", false}, {"()", "", false}, {"(x) ", "", false}, {"( ", "", false}, {"[", "]", true}, {"(10,0,0,2,8) (|||0|) ", "", false}, {strings.Repeat("(", 1<<12), strings.Repeat(")", 1<<12), false},
	} {
		want, no := none, errOther
		if x.is {
			want, no = end(10, 0, 0, 1, 2048), ok
		}
		checkListen(t, "PASV", r(227, x.ahead+"(10,0,0,1,8,0)"+x.behind), me, want, no)
		checkListen(t, "EPSV", r(229, x.ahead+"(|||2048|)"+x.behind), me, want, no)
		checkListenAsWanted(t, "PASV", r(227, x.ahead+"(10,0,0,1,8,0)"+x.behind), me)
		checkListenAsWanted(t, "EPSV", r(229, x.ahead+"(|||2048|)"+x.behind), me)
	}
	// The first brackets tell, also where a further one has an end that would be denied, or the other way round.
	checkListen(t, "PASV", r(227, "(10,0,0,2,8,0) (10,0,0,1,8,0)"), me, none, errDenied)
	checkListen(t, "EPSV", r(229, "(|||80|) (|||2048|)"), me, none, errDenied)
	for _, m := range []string{"!", "~", ".", "/", "a", "(", ":"} {
		checkListen(t, "EPSV", r(229, "ok ("+m+m+m+"2048"+m+")"), me, end(10, 0, 0, 1, 2048), ok)
	}
}

// P19.2: lines without an end, or a port.
func TestListenOfNoEnd(t *testing.T) {
	for _, s := range badEnds() {
		// Of the list these are ends, or ports, where they stand in brackets.
		if in := wantInside("(" + s + ")"); in == "10,0,0,1,8,0" || in == "|||2048|" {
			continue
		}
		checkListen(t, "PASV", r(227, "("+s+")"), me, none, errOther)
		checkListen(t, "EPSV", r(229, "("+s+")"), me, none, errOther)
	}
	for _, s := range []string{"", " ", "x", "Entering Passive Mode", "10,0,0,1,8,0", "|||2048|", "(10,0,0,1,8,0", "10,0,0,1,8,0)", "(|||2048|", "|||2048|)", ")10,0,0,1,8,0(", ")|||2048|(", "[10,0,0,1,8,0]", "[|||2048|]", "=10,0,0,1,8,0", "(10,0,0,1,8,256)", "(|||65536|)", "(|||0|)", "(||2048|)", "(||||2048|)", "(|||2048||)", "(|||2048)", "(|1||2048|)", "(||10.0.0.1|2048|)", "(111204811)", "(|||02048|)", "(|||-2048|)", "(   2048 )", "\xff", "\x00"} {
		checkListen(t, "PASV", r(227, s), me, none, errOther)
		checkListen(t, "EPSV", r(229, s), me, none, errOther)
	}
}

// P19.2, R2: of every other verb there is, and of none, whatever else is so.
func TestListenOfOtherVerbs(t *testing.T) {
	verbs := others("PASV", "EPSV")
	if len(verbs) != 34+len(badVerbs()) {
		t.Fatalf("%d verbs", len(verbs))
	}
	replies := []api.Reply{{}, r(227, "(10,0,0,1,8,0)"), r(229, "(|||2048|)"), r(227, "(10,0,0,2,8,0)"), r(227, "(10,0,0,1,0,80)"), r(229, "(|||80|)"), r(229, "(10,0,0,1,8,0)"), r(227, "(|||2048|)"), r(227), r(229), r(227, "x"), r(229, "x"), r(227, "(10,0,0,1,8,0)", ""), r(0, "(10,0,0,1,8,0)"), r(-1, "x", "y"), r(200, "10,0,0,1,8,0"), r(200, "|1|10.0.0.1|2048|")}
	for _, v := range verbs {
		for _, x := range replies {
			checkListen(t, v, x, me, none, errArg)
			checkListen(t, v, x, api.Host{}, none, errArg)
		}
	}
}

// P19.2: every byte at every place of a line: instead of what stands there, ahead of it, and without it.
func TestListenEveryByteAtEveryPlace(t *testing.T) {
	counts := map[api.Errno]int{}
	for _, s := range []string{"ok (10,0,0,1,8,0).", "(10,0,0,1,255,255)"} {
		for _, text := range changed(s) {
			counts[checkListenAsWanted(t, "PASV", r(227, text), me)]++
			checkListenAsWanted(t, "EPSV", r(229, text), me)
		}
	}
	for _, s := range []string{"ok (|||2048|).", "(!!!65535!)", "((((1024()"} {
		for _, text := range changed(s) {
			counts[checkListenAsWanted(t, "EPSV", r(229, text), me)]++
			checkListenAsWanted(t, "PASV", r(227, text), me)
		}
	}
	for _, no := range []api.Errno{ok, errOther, errDenied} {
		if counts[no] < 10 {
			t.Errorf("just %d of %d", counts[no], no)
		}
	}
}

// P19.3: what is asked, and told, byte by byte; nothing of a port below 1024.
func TestAskAndTell(t *testing.T) {
	for _, x := range written {
		if !x.mayTell {
			for _, v := range []string{"PORT", "EPRT", "PASV", "EPSV"} {
				checkAsk(t, v, x.e, api.Cmd{}, false)
				checkTell(t, v, x.e, api.Reply{}, false)
			}
			continue
		}
		checkAsk(t, "PORT", x.e, c("PORT", x.six), true)
		checkAsk(t, "EPRT", x.e, c("EPRT", x.ext), true)
		checkTell(t, "PASV", x.e, r(227, x.pasv), true)
		checkTell(t, "EPSV", x.e, r(229, x.epsv), true)
		for _, v := range []string{"PORT", "EPRT", "PASV", "EPSV"} {
			checkAskAsWanted(t, v, x.e)
			checkTellAsWanted(t, v, x.e)
		}
	}
}

// P19.3: every port, and those that are none.
func TestAskAndTellOfEveryPort(t *testing.T) {
	ports := slices.Clone(strangePorts)
	for n := -1100; n <= 70000; n++ {
		ports = append(ports, n)
	}
	fine := 0
	for _, n := range ports {
		for _, v := range []string{"PORT", "EPRT", "PASV", "EPSV"} {
			e := end(192, 168, 7, 255, n)
			is, told := checkAskAsWanted(t, v, e), checkTellAsWanted(t, v, e)
			if is || told {
				fine++
			}
			if is && told || (is || told) != (n >= 1024 && n <= 65535) {
				t.Fatalf("%s of %d: asked %t, told %t", v, n, is, told)
			}
		}
	}
	if fine != 4*64512 {
		t.Errorf("%d were asked, or told, want %d", fine, 4*64512)
	}
}

// P19.3: every number at every place of the host.
func TestAskAndTellOfEveryHost(t *testing.T) {
	for _, h := range []api.Host{{10, 0, 0, 1}, {0, 0, 0, 0}, {255, 255, 255, 255}, {1, 22, 133, 244}} {
		for _, host := range otherHosts(h) {
			e := api.End{Host: host, Port: 1024 + int(host[0])*3 + int(host[3])}
			for _, v := range []string{"PORT", "EPRT"} {
				if !checkAskAsWanted(t, v, e) {
					t.Fatalf("%s of %v is not asked", v, e)
				}
			}
			for _, v := range []string{"PASV", "EPSV"} {
				if !checkTellAsWanted(t, v, e) {
					t.Fatalf("%s of %v is not told", v, e)
				}
			}
		}
	}
}

// P19.3: of every other verb there is, and of none, whatever the port is.
func TestAskAndTellOfOtherVerbs(t *testing.T) {
	for _, n := range append([]int{1024, 1025, 2048, 65534, 65535}, strangePorts...) {
		for _, host := range []api.Host{{}, me, {255, 255, 255, 255}} {
			e := api.End{Host: host, Port: n}
			for _, v := range others("PORT", "EPRT") {
				checkAsk(t, v, e, api.Cmd{}, false)
			}
			for _, v := range others("PASV", "EPSV") {
				checkTell(t, v, e, api.Reply{}, false)
			}
		}
	}
}

// P19.3, R6: where nothing is told there is no line.
func TestTellNothing(t *testing.T) {
	for _, x := range []struct {
		verb string
		port int
	}{{"PASV", 1023}, {"PASV", 65536}, {"EPSV", 1023}, {"EPSV", 65536}, {"EPSV", 0}, {"PASV", -1}, {"PORT", 2048}, {"", 2048}, {"pasv", 2048}} {
		got, is := Tell(x.verb, api.End{Host: me, Port: x.port})
		if got.Code != 0 || len(got.Lines) != 0 || is {
			t.Errorf("Tell(%q, %d) = %+v, %t", x.verb, x.port, got, is)
		}
	}
}

// someEnds are ends that may be told on, of all kinds of hosts and ports.
func someEnds() []api.End {
	all := []api.End{}
	for _, host := range append(otherHosts(me), me) {
		all = append(all, api.End{Host: host, Port: 1024 + (int(host[0])*257+int(host[3])*63)%64512})
	}
	for _, n := range []int{1024, 1025, 2047, 2048, 4095, 4096, 9999, 10000, 32767, 32768, 65279, 65280, 65534, 65535} {
		all = append(all, end(10, 0, 0, 1, n), end(255, 255, 255, 255, n), end(0, 0, 0, 0, n))
	}
	return all
}

// P19.4: what is asked may be sent, is read as it was, and is pointed to by who has that address, and nobody else.
func TestAskedIsPointedTo(t *testing.T) {
	for _, e := range someEnds() {
		for _, v := range []string{"PORT", "EPRT"} {
			asked, is := Ask(v, e)
			line, isSent := cmd.Print(asked)
			read, no := cmd.Read(line)
			if !is || !isSent || !cmd.May(asked) || read != asked || no != ok {
				t.Fatalf("Ask(%q, %v) = %q, %t, sent as %q, read as %q, %d", v, e, asked, is, line, read, no)
			}
			checkPoint(t, read, e.Host, e, ok)
			for place := range 4 {
				other := e.Host
				other[place]++
				checkPoint(t, read, other, none, errDenied)
			}
			if asked.Verb != v {
				t.Errorf("Ask(%q, %v) has the verb %q", v, e, asked.Verb)
			}
		}
	}
}

// P19.4: what is told may be sent, is taken as it was, and is listened to by who has that address; of PASV by nobody else.
func TestToldIsListenedTo(t *testing.T) {
	for _, e := range someEnds() {
		for _, v := range []string{"PASV", "EPSV"} {
			told, is := Tell(v, e)
			lines, isSent := reply.Print(told)
			if !is || !isSent || !reply.May(told) || len(lines) != 1 {
				t.Fatalf("Tell(%q, %v) = %+v, %t, sent as %q", v, e, told, is, lines)
			}
			_, taken, all, no := reply.Take(api.Gather{}, lines[0])
			if !all || no != ok || !reply.Same(taken, told) {
				t.Fatalf("%q is taken as %+v, %t, %d", lines[0], taken, all, no)
			}
			checkListen(t, v, taken, e.Host, e, ok)
			for place := range 4 {
				other := e.Host
				other[place]++
				if v == "PASV" {
					checkListen(t, v, taken, other, none, errDenied)
				} else {
					checkListen(t, v, taken, other, api.End{Host: other, Port: e.Port}, ok)
				}
			}
		}
	}
}

// P19.4: whatever is asked and told goes the other way just where that is of the same verb.
func TestAskedAndToldOfOtherVerbs(t *testing.T) {
	e := end(10, 0, 0, 1, 2048)
	for _, x := range [][2]string{{"PORT", "EPRT"}, {"EPRT", "PORT"}} {
		asked, _ := Ask(x[0], e)
		checkPoint(t, c(x[1], asked.Arg), me, none, errOther)
	}
	for _, x := range [][2]string{{"PASV", "EPSV"}, {"EPSV", "PASV"}} {
		told, _ := Tell(x[0], e)
		checkListen(t, x[1], told, me, none, errOther)
	}
}

// byChance is a text out of words of which ends are made, and ports.
func byChance(x *rand.Rand) string {
	last := []int{0, 1, 0, 1, 0, 1, 255, 256}[x.Intn(8)]
	switch x.Intn(6) {
	case 0:
		return fmt.Sprintf("%d,%d,%d,%d,%d,%d", x.Intn(2), x.Intn(2), x.Intn(2), last, x.Intn(10), x.Intn(258))
	case 1:
		return fmt.Sprintf("|%d|%d.%d.%d.%d|%d|", x.Intn(3), x.Intn(2), x.Intn(2), x.Intn(2), last, x.Intn(2400))
	case 2:
		return fmt.Sprintf("ok (%d,%d,%d,%d,%d,%d) x", x.Intn(2), x.Intn(2), x.Intn(2), last, x.Intn(10), x.Intn(258))
	case 3:
		return fmt.Sprintf("ok (|||%d|).", x.Intn(70000))
	}
	words := []string{"(", ")", "|", "!", "1", "2", "0", ",", ".", "10", "1.1.1.1", "2048", "8,0", "1,1,1,1,", "|||", "\xff"}
	s := ""
	for range x.Intn(9) {
		s += words[x.Intn(len(words))]
	}
	return s
}

// P19.4, R1, P1: whatever is handed in, each call ends, and is what the tests have; no end is of another address than that of who told it, and none is of a port below 1024.
func TestChance(t *testing.T) {
	x := rand.New(rand.NewSource(191))
	verbs := slices.Concat(slices.Repeat([]string{"PORT", "EPRT", "PASV", "EPSV"}, 40), others())
	counts := map[string]int{}
	for range 200000 {
		v, who := verbs[x.Intn(len(verbs))], api.Host{byte(x.Intn(2)), byte(x.Intn(2)), byte(x.Intn(2)), byte(x.Intn(2))}
		asked := c(v, byChance(x))
		lines := []string{}
		for range []int{0, 1, 1, 1, 1, 1, 2}[x.Intn(7)] {
			lines = append(lines, byChance(x))
		}
		heard := r([]int{227, 227, 227, 229, 229, 229, 226, 0}[x.Intn(8)], lines...)
		for i, told := range []func() (api.End, api.Errno){
			func() (api.End, api.Errno) { checkPointAsWanted(t, asked, who); return Point(asked, who) },
			func() (api.End, api.Errno) { checkListenAsWanted(t, v, heard, who); return Listen(v, heard, who) },
		} {
			e, no := told()
			if no == ok && (e.Host != who || e.Port < 1024 || e.Port > 65535) || no != ok && e != none {
				t.Fatalf("%d: %q %q, or %+v, of %v tell %v, %d", i, v, asked.Arg, heard, who, e, no)
			}
			counts[fmt.Sprint(i, no)]++
		}
		at := api.End{Host: who, Port: x.Intn(70000) - 1000}
		if x.Intn(4) == 0 {
			at.Port = int(x.Uint64())
		}
		checkAskAsWanted(t, v, at)
		checkTellAsWanted(t, v, at)
	}
	for _, k := range []string{"0 0", "0 1", "0 2", "0 6", "0 8", "1 0", "1 1", "1 2", "1 6"} {
		if counts[k] < 30 {
			t.Errorf("just %d of %q", counts[k], k)
		}
	}
	if counts["1 8"]+counts["1 3"]+counts["0 3"] != 0 {
		t.Error("errors that the chapter does not have")
	}
}

// R3: what is handed in stays as it was.
func TestWhatIsHandedInStays(t *testing.T) {
	for _, x := range written {
		for _, v := range []string{"PORT", "EPRT", "PASV", "EPSV", "NOOP"} {
			memory := []string{"a", x.pasv, x.epsv, "b"}
			was := slices.Clone(memory)
			for from := range len(memory) {
				for to := from; to <= len(memory); to++ {
					for _, code := range []int{227, 229} {
						heard := api.Reply{Code: code, Lines: memory[from:to]}
						Listen(v, heard, x.e.Host)
						if heard.Code != code || !reflect.DeepEqual(heard.Lines, was[from:to]) {
							t.Fatalf("the reply became %+v", heard)
						}
					}
				}
			}
			asked, e := c(v, x.six), x.e
			Point(asked, e.Host)
			Ask(v, e)
			Tell(v, e)
			if !slices.Equal(memory, was) || asked != c(v, x.six) || e != x.e {
				t.Fatalf("became %q, %q, %v", memory, asked, e)
			}
		}
	}
}

// R3: an answer's lines are the caller's own.
func TestToldIsTheCallersOwn(t *testing.T) {
	for _, v := range []string{"PASV", "EPSV"} {
		e := end(10, 0, 0, 1, 2048)
		want, _ := wantTell(v, e)
		first, _ := Tell(v, e)
		second, _ := Tell(v, e)
		first.Lines[0] = "x"
		first.Lines = append(first.Lines[:0], "y", "z")
		if !reply.Same(second, want) {
			t.Errorf("the other answer became %+v", second)
		}
		checkTell(t, v, e, want, true)
		// What one reads from an answer stays, too.
		got, _ := Listen(v, second, me)
		second.Lines[0] = "x"
		if got != e {
			t.Errorf("Listen told %v", got)
		}
	}
}

// R5: nothing hangs on what was asked before.
func TestAfterOthers(t *testing.T) {
	for i := range 50 {
		for _, v := range others() {
			e := end(byte(i), 1, 2, 3, 1000+i)
			Point(c(v, "10,0,0,9,9,9"), e.Host)
			Listen(v, r(227, "(10,0,0,9,9,9)"), e.Host)
			Ask(v, e)
			Tell(v, e)
		}
		checkPoint(t, c("PORT", "10,0,0,1,8,0"), me, end(10, 0, 0, 1, 2048), ok)
		checkPoint(t, c("EPRT", "|2|10.0.0.1|2048|"), me, none, errNoKind)
		checkPoint(t, c("EPRT", "|1|10.0.0.1|1023|"), me, none, errDenied)
		checkPoint(t, c("EPRT", "x"), me, none, errOther)
		checkPoint(t, c("x", "x"), me, none, errArg)
		checkListen(t, "PASV", r(227, "(10,0,0,1,8,0)"), me, end(10, 0, 0, 1, 2048), ok)
		checkListen(t, "EPSV", r(229, "(|||2048|)"), me, end(10, 0, 0, 1, 2048), ok)
		checkAsk(t, "PORT", end(10, 0, 0, 1, 2048), c("PORT", "10,0,0,1,8,0"), true)
		checkTell(t, "EPSV", end(10, 0, 0, 1, 2048), r(229, "Entering Extended Passive Mode (|||2048|)."), true)
	}
}

// Why an end is none is told by a fault, which wraps what is wrong with the part that it names.
func TestFaults(t *testing.T) {
	faultOf := func(_ api.End, err error) error { return err }
	for i, x := range []struct {
		err        error
		part, text string
		why        error
		no         api.Errno
	}{
		{faultOf(readCmd(c("x", ""))), "verb", "verb tells no end", errVerb, errArg},
		{faultOf(readCmd(c("PORT", "x"))), "end", "end is of another form", errForm, errOther},
		{faultOf(readCmd(c("EPRT", "x"))), "end", "end is of another form", errForm, errOther},
		{faultOf(readCmd(c("EPRT", "|2|::1|80|"))), "end", "end is of another kind", errKind, errNoKind},
		{faultOf(readReply("x", r(227, "x"), me)), "verb", "verb tells no end", errVerb, errArg},
		{faultOf(readReply("PASV", r(227, "x"), me)), "end", "end is of another form", errForm, errOther},
		{faultOf(readReply("EPSV", r(227, "(|||2048|)"), me)), "end", "end is of another form", errForm, errOther},
		{check(end(10, 0, 0, 2, 80), me), "host", "host is not allowed", errDeny, errDenied},
		{check(end(10, 0, 0, 1, 80), me), "port", "port is not allowed", errDeny, errDenied},
	} {
		var f fault
		if !errors.As(x.err, &f) || f.part != x.part || x.err.Error() != x.text || number(x.err) != x.no {
			t.Errorf("%d: %v, told as %d, want a fault of its %s: %s, told as %d", i, x.err, number(x.err), x.part, x.text, x.no)
		}
		for _, why := range []error{errVerb, errForm, errKind, errDeny} {
			if errors.Is(x.err, why) != (why == x.why) {
				t.Errorf("%d: %v wraps %v: %t", i, x.err, why, why != x.why)
			}
		}
	}
	if err := check(end(10, 0, 0, 1, 1024), me); err != nil || number(err) != ok {
		t.Error(err)
	}
}

// The numbers of the chapter are those of api, and its four verbs are of the kinds that tell an end.
func TestNumbers(t *testing.T) {
	if api.OK != ok || api.ErrArg != errArg || api.ErrForm != errOther || api.ErrDeny != errDenied || api.ErrKind != errNoKind || api.MinPort != 1024 || api.MaxPort != 65535 {
		t.Error("the errors and bounds are others")
	}
	for _, v := range verb.All() {
		_, isAsked := Ask(v.Name, end(10, 0, 0, 1, 2048))
		_, isTold := Tell(v.Name, end(10, 0, 0, 1, 2048))
		if isAsked != (v.Kind == api.Point) || isTold != (v.Kind == api.Listen) {
			t.Errorf("%s is asked %t, told %t", v.Name, isAsked, isTold)
		}
	}
}
