package order

import (
	"math"
	"math/big"
	"math/rand"
	"regexp"
	"slices"
	"strings"
	"testing"

	"wharfinger/api"
	"wharfinger/verb"
)

// The kinds by the document's own numbers, so that a table by hand tells them.
const (
	enter, plain, dir, carry, listen, point, first, second, start, stop, quit = 0, 1, 2, 3, 4, 5, 6, 7, 8, 9, 10
)

// top is the greatest start.
const top = 1 << 40

// row is a verb as the document has it: its name, its kind, and whether it has an argument (0: none, 1: it may, 2: it must).
type row struct {
	name      string
	kind, arg int
}

// rows are the document's own.
var rows = []row{
	{"ABOR", stop, 0}, {"ACCT", enter, 2}, {"ALLO", plain, 2}, {"APPE", carry, 2}, {"CDUP", dir, 0}, {"CWD", dir, 2},
	{"DELE", plain, 2}, {"EPRT", point, 2}, {"EPSV", listen, 0}, {"FEAT", plain, 0}, {"HELP", plain, 1}, {"LIST", carry, 1},
	{"MDTM", plain, 2}, {"MKD", plain, 2}, {"MLSD", carry, 1}, {"MLST", plain, 1}, {"MODE", plain, 2}, {"NLST", carry, 1},
	{"NOOP", plain, 0}, {"PASS", enter, 1}, {"PASV", listen, 0}, {"PORT", point, 2}, {"PWD", plain, 0}, {"QUIT", quit, 0},
	{"REST", start, 2}, {"RETR", carry, 2}, {"RMD", plain, 2}, {"RNFR", first, 2}, {"RNTO", second, 2}, {"SIZE", plain, 2},
	{"STAT", plain, 1}, {"STOR", carry, 2}, {"STRU", plain, 2}, {"SYST", plain, 0}, {"TYPE", plain, 2}, {"USER", enter, 2},
}

// fresh is what New has to be.
var fresh = api.Order{Verb: "", Pend: 0, From: false, Start: -1}

// pends are all that may be, those beside them, and others that may not.
var pends = []int{math.MinInt, math.MinInt + 1, -1 << 32, -256, -8, -2, -1, 0, 1, 2, 3, 4, 5, 6, 7, 8, 9, 10, 16, 255, 256, 257, 264, 1 << 32, 1<<32 + 1, math.MaxInt - 1, math.MaxInt}

// starts are some that may be, those beside them, and others that may not.
var starts = []int{math.MinInt, math.MinInt + 1, -top - 1, -top, -1 << 32, -3, -2, -1, 0, 1, 77, 1 << 31, 1 << 32, top - 1, top, top + 1, top + 2, 2 * top, math.MaxInt - 1, math.MaxInt}

// goodStarts are those of starts that may be.
var goodStarts = []int{-1, 0, 1, 77, 1 << 31, 1 << 32, top - 1, top}

// numOf is what a number is written like.
var numOf = regexp.MustCompile(`\A(0|[1-9][0-9]*)\z`)

// shown is an order whose verb is short enough to be told.
func shown(o api.Order) api.Order {
	o.Verb = o.Verb[:min(len(o.Verb), 40)]
	return o
}

func shownCmd(c api.Cmd) api.Cmd {
	return api.Cmd{Verb: c.Verb[:min(len(c.Verb), 40)], Arg: c.Arg[:min(len(c.Arg), 40)]}
}

func names() []string {
	var all []string
	for _, x := range rows {
		all = append(all, x.name)
	}
	return all
}

// badVerbs are no names of verbs; an empty one is none, too, but is not among them.
func badVerbs() []string {
	all := []string{"SITE", "XYZ", "A", "RN", "RET", "RETRX", "STOU", "ALL", "LPRT", "REIN", " ", "\x00", "RETR ", " RETR", "RETR\x00", "RETR\r\n", "RETR a", "RETR,STOR", "\u017fTOR", "R\u0415TR", strings.Repeat("A", 1<<16)}
	for _, x := range rows {
		n := x.name
		all = append(all, strings.ToLower(n), n[:1]+strings.ToLower(n[1:]), strings.ToLower(n[:1])+n[1:], n[:len(n)-1]+strings.ToLower(n[len(n)-1:]), n[1:], n[:len(n)-1], n+"X", "X"+n, n+" ", n+n)
	}
	return all
}

// kindOf is the kind of a name, and -1 of what is none.
func kindOf(name string) int {
	for _, x := range rows {
		if x.name == name {
			return x.kind
		}
	}
	return -1
}

// with is a command of a verb with all that it needs.
func with(x row) api.Cmd {
	switch {
	case x.arg == 0:
		return api.Cmd{Verb: x.name}
	case x.kind == start:
		return api.Cmd{Verb: x.name, Arg: "5"}
	}
	return api.Cmd{Verb: x.name, Arg: "a"}
}

// c is a command.
func c(verb, arg string) api.Cmd { return api.Cmd{Verb: verb, Arg: arg} }

// busy is one under way.
func busy(verb string, pend int, from bool, start int) api.Order {
	return api.Order{Verb: verb, Pend: pend, From: from, Start: start}
}

// rest is an idle one.
func rest(from bool, start int) api.Order { return api.Order{From: from, Start: start} }

// idles are those that may be, of From set and not, and all good starts.
func idles() []api.Order {
	var all []api.Order
	for _, at := range goodStarts {
		all = append(all, rest(false, at), rest(true, at))
	}
	return all
}

// underWay are those that may be, of those pends and starts, of each verb there is, with From set and not.
func underWay(pends, starts []int) []api.Order {
	var all []api.Order
	for _, name := range names() {
		for _, pend := range pends {
			for _, at := range starts {
				all = append(all, busy(name, pend, false, at), busy(name, pend, true, at))
			}
		}
	}
	return all
}

// odds are some that may not be, each part alone being wrong, or more of them.
func odds() []api.Order {
	var all []api.Order
	for _, from := range []bool{false, true} {
		for _, at := range []int{math.MinInt, -2, top + 1, math.MaxInt} {
			all = append(all, rest(from, at), busy("RNFR", 1, from, at), busy("REST", 8, from, at), busy("RETR", 2, from, at), busy("x", 9, from, at))
		}
		for _, at := range []int{-1, 0, top} {
			all = append(all, busy("", 1, from, at), busy("", 8, from, at), busy("", -1, from, at), busy("", 9, from, at), busy("NOOP", 0, from, at), busy("RNFR", 0, from, at), busy("REST", 0, from, at), busy("RNFR", -1, from, at), busy("RETR", 9, from, at), busy("RNFR", math.MinInt, from, at), busy("RETR", math.MaxInt, from, at), busy("noop", 1, from, at), busy("rest", 2, from, at), busy("Retr", 8, from, at), busy("SITE", 1, from, at), busy("RET", 1, from, at), busy("RETRX", 1, from, at), busy(" ", 0, from, at))
		}
	}
	return all
}

// badCmds may not be.
func badCmds() []api.Cmd {
	all := []api.Cmd{{}, c("", "a"), c("SITE", "a"), c("SITE", ""), c("retr", "a"), c("Retr", "a"), c("abor", ""), c("noop", ""), c("RETR ", "a"), c("RETR", "a\r"), c("RETR", "a\nb"), c("RETR", "\x00"), c("RETR", "\x7f"), c("STOR", "\xff"), c("LIST", "\u00e9"), c("RNTO", "a\t"), c("REST", "5\n"), c("rest", "5"), c("RNFR", "\x1f")}
	for _, x := range rows {
		switch x.arg {
		case 0:
			all = append(all, c(x.name, "a"), c(x.name, " "))
		case 2:
			all = append(all, c(x.name, ""))
		}
		all = append(all, c(strings.ToLower(x.name), with(x).Arg), c(x.name+"X", with(x).Arg), c(x.name, with(x).Arg+"\r\n"))
	}
	return all
}

// goodCmds may be, of each verb with and without an argument, as it may.
func goodCmds() []api.Cmd {
	var all []api.Cmd
	for _, x := range rows {
		if x.arg < 2 {
			all = append(all, c(x.name, ""))
		}
		if x.arg > 0 {
			all = append(all, c(x.name, "a"), c(x.name, "0"), c(x.name, "77"), c(x.name, " a b"))
		}
	}
	return all
}

// wantMay is May as the tests have it: by lists of what may be.
func wantMay(o api.Order) bool {
	if o.Start < -1 || o.Start > 1099511627776 {
		return false
	}
	if len(o.Verb) == 0 {
		return o.Pend == 0
	}
	return slices.Contains(names(), o.Verb) && slices.Contains([]int{1, 2, 3, 4, 5, 6, 7, 8}, o.Pend)
}

// wantCmd tells whether a command may be, as the tests have it.
func wantCmd(c api.Cmd) bool {
	for _, b := range []byte(c.Arg) {
		if b < 32 || b > 126 {
			return false
		}
	}
	for _, x := range rows {
		if x.name == c.Verb {
			return c.Arg == "" && x.arg != 2 || c.Arg != "" && x.arg != 0
		}
	}
	return false
}

// wantNum is what a REST tells, as the tests have it: -1 of what is no number up to 2^40.
func wantNum(s string) int {
	if !numOf.MatchString(s) {
		return -1
	}
	n, _ := new(big.Int).SetString(s, 10)
	if n.Cmp(big.NewInt(1099511627776)) > 0 {
		return -1
	}
	return int(n.Int64())
}

// wantAsk is Ask as the tests have it: all that is wrong first, and then kind by kind what is told.
func wantAsk(o api.Order, c api.Cmd) (api.Order, api.Errno) {
	kind := kindOf(c.Verb)
	if !wantMay(o) || !wantCmd(c) || kind == enter || kind == quit {
		return o, 1
	}
	if kind == stop {
		if o.Pend == 0 || o.Pend == 8 {
			return o, 7
		}
		return api.Order{Verb: o.Verb, Pend: o.Pend + 1, From: o.From, Start: o.Start}, 0
	}
	if o.Pend > 0 || kind == second && !o.From {
		return o, 7
	}
	at := map[int]int{carry: o.Start, start: wantNum(c.Arg)}
	if kind == start && at[start] == -1 {
		return o, 1
	}
	to, is := at[kind]
	if !is {
		to = -1
	}
	return api.Order{Verb: c.Verb, Pend: 1, From: false, Start: to}, 0
}

// wantHeard is Heard as the tests have it.
func wantHeard(o api.Order, code int) (api.Order, bool, api.Errno) {
	if !wantMay(o) || o.Pend == 0 {
		return o, false, 7
	}
	if code <= 199 {
		return o, false, 0
	}
	if o.Pend > 1 {
		return api.Order{Verb: o.Verb, Pend: o.Pend - 1, From: o.From, Start: o.Start}, false, 0
	}
	to := api.Order{From: o.From, Start: o.Start}
	if o.Verb == "RNFR" {
		to.From = code == 350
	}
	if o.Verb == "REST" && code != 350 || kindOf(o.Verb) == carry {
		to.Start = -1
	}
	return to, true, 0
}

func checkMay(t *testing.T, o api.Order, want bool) {
	t.Helper()
	if got := May(o); got != want {
		t.Errorf("May(%+v) = %t, want %t", shown(o), got, want)
	}
	if wantMay(o) != want {
		t.Errorf("the tests' own May(%+v) is not %t", shown(o), want)
	}
}

// checkAsk holds Ask against an order and an error, the tests' own as well.
func checkAsk(t *testing.T, o api.Order, c api.Cmd, want api.Order, wantNo api.Errno) {
	t.Helper()
	if got, no := Ask(o, c); got != want || no != wantNo {
		t.Errorf("Ask(%+v, %q) = %+v, %d, want %+v, %d", shown(o), shownCmd(c), shown(got), no, shown(want), wantNo)
	}
	if own, no := wantAsk(o, c); own != want || no != wantNo {
		t.Errorf("the tests' own Ask(%+v, %q) is not %+v, %d", shown(o), shownCmd(c), shown(want), wantNo)
	}
}

// checkAskAsWanted holds Ask against what the tests have. It tells the error.
func checkAskAsWanted(t *testing.T, o api.Order, c api.Cmd) api.Errno {
	t.Helper()
	want, no := wantAsk(o, c)
	checkAsk(t, o, c, want, no)
	return no
}

// checkHeard holds Heard against an order, whether it ended, and an error, the tests' own as well.
func checkHeard(t *testing.T, o api.Order, code int, want api.Order, wantEnd bool, wantNo api.Errno) {
	t.Helper()
	if got, end, no := Heard(o, code); got != want || end != wantEnd || no != wantNo {
		t.Errorf("Heard(%+v, %d) = %+v, %t, %d, want %+v, %t, %d", shown(o), code, shown(got), end, no, shown(want), wantEnd, wantNo)
	}
	if own, end, no := wantHeard(o, code); own != want || end != wantEnd || no != wantNo {
		t.Errorf("the tests' own Heard(%+v, %d) is not %+v, %t, %d", shown(o), code, shown(want), wantEnd, wantNo)
	}
}

// checkHeardAsWanted holds Heard against what the tests have. It tells whether it ended, and the error.
func checkHeardAsWanted(t *testing.T, o api.Order, code int) (bool, api.Errno) {
	t.Helper()
	want, end, no := wantHeard(o, code)
	checkHeard(t, o, code, want, end, no)
	return end, no
}

// P18.2, P18.3: the chapter's examples, step by step.
func TestExamples(t *testing.T) {
	o := New()
	checkAsk(t, o, c("RNTO", "b"), fresh, 7)
	checkAsk(t, o, c("RNFR", "a"), busy("RNFR", 1, false, -1), 0)
	o, _ = Ask(o, c("RNFR", "a"))
	checkHeard(t, o, 350, rest(true, -1), true, 0)
	o, _, _ = Heard(o, 350)
	checkAsk(t, o, c("RNTO", "b"), busy("RNTO", 1, false, -1), 0)
	o, _ = Ask(o, c("RNTO", "b"))
	checkHeard(t, o, 250, fresh, true, 0)
	o, _, _ = Heard(o, 250)
	checkAsk(t, o, c("RNTO", "b"), fresh, 7)
}

// P18.1: New, field by field.
func TestNew(t *testing.T) {
	o := New()
	if o.Verb != "" {
		t.Errorf("New().Verb = %q, want nothing", o.Verb)
	}
	if o.Pend != 0 {
		t.Errorf("New().Pend = %d, want 0", o.Pend)
	}
	if o.From {
		t.Error("New().From is set")
	}
	if o.Start != -1 {
		t.Errorf("New().Start = %d, want -1", o.Start)
	}
	if o != fresh || !May(o) {
		t.Errorf("New() = %+v, want %+v, which may be", o, fresh)
	}
}

// P18.1: which may be, and what is none, written by hand.
func TestMay(t *testing.T) {
	for _, x := range []struct {
		verb        string
		pend, start int
		want        bool
	}{
		{"", 0, -1, true}, {"", 0, 0, true}, {"", 0, 1, true}, {"", 0, 77, true}, {"", 0, top - 1, true}, {"", 0, top, true}, {"", 0, top + 1, false}, {"", 0, -2, false}, {"", 0, math.MinInt, false}, {"", 0, math.MaxInt, false},
		{"", -1, -1, false}, {"", 1, -1, false}, {"", 2, -1, false}, {"", 8, -1, false}, {"", 9, -1, false}, {"", math.MinInt, -1, false}, {"", math.MaxInt, -1, false},
		{"RNFR", 0, -1, false}, {"RNFR", 1, -1, true}, {"RNFR", 2, -1, true}, {"RNFR", 7, -1, true}, {"RNFR", 8, -1, true}, {"RNFR", 9, -1, false}, {"RNFR", -1, -1, false}, {"RNFR", -8, -1, false}, {"RNFR", math.MinInt, -1, false}, {"RNFR", math.MaxInt, -1, false}, {"RNFR", 257, -1, false}, {"RNFR", 1 << 32, -1, false}, {"RNFR", 1<<32 + 1, -1, false},
		{"RETR", 1, 0, true}, {"RETR", 1, top, true}, {"RETR", 1, top + 1, false}, {"RETR", 1, -2, false}, {"RETR", 8, math.MinInt, false}, {"RETR", 8, math.MaxInt, false}, {"RETR", 8, 2 * top, false}, {"RETR", 0, top, false}, {"RETR", 9, top + 1, false}, {"RETR", 0, -2, false},
		{"ABOR", 1, -1, true}, {"USER", 1, -1, true}, {"QUIT", 8, 5, true}, {"PASS", 1, -1, true}, {"NOOP", 3, 5, true}, {"PWD", 1, -1, true}, {"CWD", 1, -1, true}, {"MKD", 8, top, true},
		{"retr", 1, -1, false}, {"Retr", 1, -1, false}, {"RETr", 1, -1, false}, {"RET", 1, -1, false}, {"ETR", 1, -1, false}, {"RETRX", 1, -1, false}, {" RETR", 1, -1, false}, {"RETR ", 1, -1, false}, {"SITE", 1, -1, false}, {"XYZ", 1, -1, false}, {" ", 1, -1, false}, {"\x00", 1, -1, false}, {"RETR\x00", 1, -1, false},
		{"retr", 0, -1, false}, {" ", 0, -1, false}, {"SITE", 0, -1, false}, {"\x00", 0, -1, false}, {"a", 0, -1, false},
	} {
		checkMay(t, busy(x.verb, x.pend, false, x.start), x.want)
		checkMay(t, busy(x.verb, x.pend, true, x.start), x.want)
	}
	checkMay(t, api.Order{}, true)
}

// P18.1: each verb, and what is none, with each number of replies and each start, with From set and not: just those with all three right may be.
func TestMayOfAll(t *testing.T) {
	n := 0
	for _, name := range slices.Concat([]string{""}, names(), badVerbs()) {
		for _, pend := range []int{math.MinInt, -1, 0, 1, 2, 8, 9, math.MaxInt} {
			for _, at := range []int{math.MinInt, -2, -1, 0, top, top + 1, math.MaxInt} {
				for _, from := range []bool{false, true} {
					o := busy(name, pend, from, at)
					checkMay(t, o, wantMay(o))
					if May(o) {
						n++
					}
				}
			}
		}
	}
	if want := (1 + 36*3) * 3 * 2; n != want {
		t.Errorf("%d may be, want %d", n, want)
	}
	for _, o := range slices.Concat(idles(), underWay([]int{1, 2, 3, 4, 5, 6, 7, 8}, goodStarts)) {
		checkMay(t, o, true)
	}
	for _, o := range odds() {
		checkMay(t, o, false)
	}
}

// P18.1: each part alone is wrong, and no other; From is never wrong.
func TestMayOfOneWrong(t *testing.T) {
	for _, o := range slices.Concat(idles(), underWay([]int{1, 8}, []int{-1, 0, top})) {
		none := o.Pend == 0
		for _, pend := range pends {
			p := o
			p.Pend = pend
			checkMay(t, p, none && pend == 0 || !none && pend >= 1 && pend <= 8)
		}
		for _, at := range starts {
			p := o
			p.Start = at
			checkMay(t, p, slices.Contains(goodStarts, at))
		}
		for _, name := range []string{"", "RETR", "PWD", "retr", "RET", "RETRS", "SITE", " "} {
			p := o
			p.Verb = name
			checkMay(t, p, none && name == "" || !none && (name == "RETR" || name == "PWD"))
		}
		o.From = !o.From
		checkMay(t, o, true)
	}
}

// P18.1: all numbers around those of replies that may be, and around both ends of starts.
func TestMayOfNumbers(t *testing.T) {
	for n := -300; n <= 300; n++ {
		checkMay(t, busy("STOR", n, false, -1), n >= 1 && n <= 8)
		checkMay(t, busy("", n, true, 7), n == 0)
		checkMay(t, rest(false, n), n >= -1)
		checkMay(t, busy("STOR", 3, true, n), n >= -1)
		checkMay(t, rest(true, top+n), n <= 0)
		checkMay(t, busy("REST", 8, false, top+n), n <= 0)
		checkMay(t, rest(false, -top+n), false)
	}
	for bit := range 63 {
		checkMay(t, rest(false, 1<<bit), bit <= 40)
		checkMay(t, rest(false, -1<<bit), bit == 0)
		checkMay(t, busy("REST", 1<<bit, false, -1), bit <= 3)
	}
}

// P18.1: verbs with each byte in the place of one of theirs, and with each byte more, at each place.
func TestMayOfVerbs(t *testing.T) {
	for _, name := range []string{"RNFR", "PWD", "ABOR", "STOR", "CWD"} {
		for b := range 256 {
			s := string([]byte{byte(b)})
			for at := range len(name) {
				other := name[:at] + s + name[at+1:]
				checkMay(t, busy(other, 1, false, -1), kindOf(other) >= 0)
				checkMay(t, busy(name[:at]+s+name[at:], 1, false, -1), false)
			}
			checkMay(t, busy(name+s, 1, false, -1), false)
		}
	}
	for _, name := range badVerbs() {
		checkMay(t, busy(name, 1, false, -1), false)
		checkMay(t, busy(name, 0, false, -1), false)
	}
}

// The verbs of the tests are those that there are.
func TestRows(t *testing.T) {
	var got []row
	for _, v := range verb.All() {
		got = append(got, row{v.Name, v.Kind, v.Arg})
	}
	if !slices.Equal(got, rows) || len(rows) != 36 {
		t.Errorf("there are the verbs %v", got)
	}
	count := map[int]int{}
	for _, x := range rows {
		count[x.kind]++
	}
	if count[first] != 1 || count[second] != 1 || count[start] != 1 || count[stop] != 1 || len(count) != 11 {
		t.Errorf("of each kind are so many: %v", count)
	}
}

// P18.2: Ask, by hand.
func TestAsk(t *testing.T) {
	for _, x := range []struct {
		o    api.Order
		c    api.Cmd
		want api.Order
		no   api.Errno
	}{
		{fresh, c("NOOP", ""), busy("NOOP", 1, false, -1), 0}, {fresh, c("CWD", "a"), busy("CWD", 1, false, -1), 0}, {fresh, c("CDUP", ""), busy("CDUP", 1, false, -1), 0}, {fresh, c("PASV", ""), busy("PASV", 1, false, -1), 0}, {fresh, c("EPSV", ""), busy("EPSV", 1, false, -1), 0}, {fresh, c("PORT", "10,0,0,1,4,0"), busy("PORT", 1, false, -1), 0}, {fresh, c("EPRT", "x"), busy("EPRT", 1, false, -1), 0}, {fresh, c("RETR", "a b"), busy("RETR", 1, false, -1), 0}, {fresh, c("LIST", ""), busy("LIST", 1, false, -1), 0}, {fresh, c("RNFR", "a"), busy("RNFR", 1, false, -1), 0}, {fresh, c("REST", "77"), busy("REST", 1, false, 77), 0}, {fresh, c("REST", "0"), busy("REST", 1, false, 0), 0},
		{fresh, c("RNTO", "b"), fresh, 7}, {fresh, c("ABOR", ""), fresh, 7}, {fresh, c("USER", "a"), fresh, 1}, {fresh, c("PASS", ""), fresh, 1}, {fresh, c("ACCT", "a"), fresh, 1}, {fresh, c("QUIT", ""), fresh, 1}, {fresh, c("RETR", ""), fresh, 1}, {fresh, c("NOOP", "a"), fresh, 1}, {fresh, c("retr", "a"), fresh, 1}, {fresh, c("SITE", "a"), fresh, 1}, {fresh, c("RETR", "a\r"), fresh, 1}, {fresh, c("REST", "x"), fresh, 1}, {fresh, c("REST", ""), fresh, 1}, {fresh, api.Cmd{}, fresh, 1},
		{rest(true, -1), c("RNTO", "b"), busy("RNTO", 1, false, -1), 0}, {rest(true, 9), c("RNTO", "b"), busy("RNTO", 1, false, -1), 0}, {rest(true, -1), c("NOOP", ""), busy("NOOP", 1, false, -1), 0}, {rest(true, -1), c("RNFR", "a"), busy("RNFR", 1, false, -1), 0}, {rest(true, -1), c("REST", "7"), busy("REST", 1, false, 7), 0}, {rest(true, 9), c("STOR", "a"), busy("STOR", 1, false, 9), 0}, {rest(true, -1), c("RNTO", ""), rest(true, -1), 1}, {rest(true, 9), c("ABOR", ""), rest(true, 9), 7}, {rest(true, 9), c("USER", "a"), rest(true, 9), 1}, {rest(true, 9), c("REST", "x"), rest(true, 9), 1},
		{rest(false, 9), c("RETR", "a"), busy("RETR", 1, false, 9), 0}, {rest(false, 0), c("STOR", "a"), busy("STOR", 1, false, 0), 0}, {rest(false, top), c("APPE", "a"), busy("APPE", 1, false, top), 0}, {rest(false, 9), c("LIST", ""), busy("LIST", 1, false, 9), 0}, {rest(false, 9), c("NLST", "a"), busy("NLST", 1, false, 9), 0}, {rest(false, 9), c("MLSD", ""), busy("MLSD", 1, false, 9), 0}, {rest(false, 9), c("MLST", ""), busy("MLST", 1, false, -1), 0}, {rest(false, 9), c("PASV", ""), busy("PASV", 1, false, -1), 0}, {rest(false, 9), c("REST", "8"), busy("REST", 1, false, 8), 0}, {rest(false, 9), c("RNFR", "a"), busy("RNFR", 1, false, -1), 0}, {rest(false, 9), c("RNTO", "a"), rest(false, 9), 7}, {rest(false, 9), c("NOOP", ""), busy("NOOP", 1, false, -1), 0}, {rest(false, 9), c("CWD", "a"), busy("CWD", 1, false, -1), 0},
		{busy("RETR", 1, false, 9), c("ABOR", ""), busy("RETR", 2, false, 9), 0}, {busy("RETR", 2, false, 9), c("ABOR", ""), busy("RETR", 3, false, 9), 0}, {busy("RETR", 7, false, 9), c("ABOR", ""), busy("RETR", 8, false, 9), 0}, {busy("RETR", 8, false, 9), c("ABOR", ""), busy("RETR", 8, false, 9), 7}, {busy("RNFR", 1, true, top), c("ABOR", ""), busy("RNFR", 2, true, top), 0}, {busy("ABOR", 1, false, -1), c("ABOR", ""), busy("ABOR", 2, false, -1), 0}, {busy("QUIT", 1, false, -1), c("ABOR", ""), busy("QUIT", 2, false, -1), 0}, {busy("RETR", 1, false, 9), c("ABOR", "a"), busy("RETR", 1, false, 9), 1}, {busy("RETR", 1, false, 9), c("abor", ""), busy("RETR", 1, false, 9), 1},
		{busy("NOOP", 1, false, -1), c("NOOP", ""), busy("NOOP", 1, false, -1), 7}, {busy("RNFR", 1, true, -1), c("RNTO", "b"), busy("RNFR", 1, true, -1), 7}, {busy("REST", 1, false, 9), c("RETR", "a"), busy("REST", 1, false, 9), 7}, {busy("RETR", 1, false, 9), c("REST", "x"), busy("RETR", 1, false, 9), 7}, {busy("RETR", 1, false, 9), c("REST", ""), busy("RETR", 1, false, 9), 1}, {busy("RETR", 1, false, 9), c("USER", "a"), busy("RETR", 1, false, 9), 1}, {busy("RETR", 8, false, 9), c("QUIT", ""), busy("RETR", 8, false, 9), 1}, {busy("RETR", 1, false, 9), c("RNTO", "b"), busy("RETR", 1, false, 9), 7},
	} {
		checkAsk(t, x.o, x.c, x.want, x.no)
	}
}

// P18.2: each verb, with and without an argument, from idle ones and from some under way, with From set and not, and with each start.
func TestAskOfEachVerb(t *testing.T) {
	count := map[api.Errno]int{}
	some := slices.Concat(idles(), underWay([]int{1, 7, 8}, []int{-1, 0, top}))
	for _, x := range rows {
		for _, arg := range []string{"", "a", "5"} {
			for _, o := range some {
				count[checkAskAsWanted(t, o, c(x.name, arg))]++
			}
		}
	}
	// Idle ones are 16, of which 8 have From set; those under way are 648, of which 432 wait for less than 8 replies.
	// Commands that may be are 57 of the kinds that are always taken from an idle one, 2 of RNTO, 2 of REST (one with a number), and one ABOR.
	taken, odd := 57*16+2*8+1*16+432, (57+2+2)*648+2*8+16+216
	if count[0] != taken || count[7] != odd || count[1] != 36*3*len(some)-taken-odd {
		t.Errorf("errors were told so often: %v, want %d times none, and %d times 7", count, taken, odd)
	}
}

// P18.2: what is under way behind each kind, from each idle one: all four parts, told by hand.
func TestAskBehindEachKind(t *testing.T) {
	for _, x := range rows {
		for _, o := range idles() {
			got, no := Ask(o, with(x))
			switch x.kind {
			case enter, quit:
				checkAsk(t, o, with(x), o, 1)
				continue
			case stop:
				checkAsk(t, o, with(x), o, 7)
				continue
			case second:
				if !o.From {
					checkAsk(t, o, with(x), o, 7)
					continue
				}
			}
			at := -1
			if x.kind == carry {
				at = o.Start
			}
			if x.kind == start {
				at = 5
			}
			if no != 0 || got.Verb != x.name || got.Pend != 1 || got.From || got.Start != at {
				t.Errorf("Ask(%+v, %q) = %+v, %d, want 1 reply, and to start at %d", o, with(x), got, no, at)
			}
		}
	}
}

// P18.2: an ABOR from each one under way: just Pend is one more, as long as that is not 8.
func TestAskOfStop(t *testing.T) {
	for _, o := range underWay([]int{1, 2, 3, 4, 5, 6, 7, 8}, []int{-1, 0, 77, top}) {
		want, no := o, api.Errno(7)
		if o.Pend < 8 {
			want.Pend, no = o.Pend+1, 0
		}
		checkAsk(t, o, c("ABOR", ""), want, no)
	}
	for _, o := range idles() {
		checkAsk(t, o, c("ABOR", ""), o, 7)
	}
	o := busy("RETR", 1, false, 9)
	for n := 2; n <= 8; n++ {
		checkAsk(t, o, c("ABOR", ""), busy("RETR", n, false, 9), 0)
		o, _ = Ask(o, c("ABOR", ""))
	}
	checkAsk(t, o, c("ABOR", ""), o, 7)
}

// P18.2: while one is under way no other command is, but an ABOR.
func TestAskWhileUnderWay(t *testing.T) {
	for _, o := range underWay([]int{1, 2, 8}, []int{-1, 9}) {
		for _, x := range rows {
			switch x.kind {
			case enter, quit:
				checkAsk(t, o, with(x), o, 1)
			case stop:
			default:
				checkAsk(t, o, with(x), o, 7)
			}
		}
	}
}

// P18.2, R2: ErrArg ahead of ErrOdd, where the order may not be, whatever is asked; and it stays, whatever it is.
func TestAskOfOnesThatMayNotBe(t *testing.T) {
	all := slices.Concat(goodCmds(), badCmds())
	for _, o := range odds() {
		for _, c := range all {
			checkAsk(t, o, c, o, 1)
		}
	}
	for _, name := range badVerbs() {
		for _, pend := range []int{0, 1, 8} {
			o := busy(name, pend, true, 5)
			for _, c := range []api.Cmd{c("NOOP", ""), c("ABOR", ""), c("RNTO", "a"), c("REST", "5"), c("RETR", "a"), c("QUIT", "")} {
				checkAsk(t, o, c, o, 1)
			}
		}
	}
}

// P18.2, R2: ErrArg ahead of ErrOdd, where the command may not be, or is of the Kind Enter or Quit, from whatever order.
func TestAskOfCmdsThatMayNotBe(t *testing.T) {
	some := slices.Concat(idles(), underWay([]int{1, 8}, []int{-1, 9}))
	for _, c := range slices.Concat(badCmds(), []api.Cmd{c("USER", "me@ftp.a"), c("PASS", ""), c("PASS", "x"), c("ACCT", "a"), c("QUIT", ""), c("USER", "5")}) {
		for _, o := range some {
			checkAsk(t, o, c, o, 1)
		}
	}
	for _, name := range slices.Concat([]string{""}, badVerbs()) {
		for _, arg := range []string{"", "a", "5"} {
			for _, o := range []api.Order{fresh, rest(true, 5), busy("RETR", 1, false, 5), busy("RNFR", 8, true, -1)} {
				checkAsk(t, o, c(name, arg), o, 1)
			}
		}
	}
}

// P18.2: arguments of each byte, alone and inside another one, of verbs of several kinds.
func TestAskOfEveryByte(t *testing.T) {
	for b := range 256 {
		s := string([]byte{byte(b)})
		for _, name := range []string{"RETR", "RNFR", "REST", "LIST", "NOOP", "ABOR", "CWD"} {
			for _, arg := range []string{s, s + "5", "5" + s, "1" + s + "5"} {
				for _, o := range []api.Order{rest(true, 9), busy("STOR", 1, false, 9)} {
					checkAskAsWanted(t, o, c(name, arg))
				}
			}
		}
	}
}

// P18.2: a REST, by hand: what is a number up to 2^40, and what is none; and where one is under way that is odd, whatever it is.
func TestAskOfNumbers(t *testing.T) {
	good := map[string]int{"0": 0, "1": 1, "9": 9, "10": 10, "77": 77, "100": 100, "2147483648": 1 << 31, "4294967296": 1 << 32, "1099511627775": top - 1, "1099511627776": top}
	for arg, at := range good {
		for _, o := range idles() {
			checkAsk(t, o, c("REST", arg), busy("REST", 1, false, at), 0)
		}
	}
	bad := []string{"1099511627777", "1099511627786", "1999511627776", "2199023255552", "10995116277760", "9223372036854775807", "9223372036854775808", "18446744073709551616", "18446744073709551617", "18446744073709551621", "999999999999999999", "9999999999999999999", "00", "01", "077", "0000000000000000000", "000000000000000005", "+1", "-1", "-0", "+0", "--1", "1.0", "1e3", "0x1", "0b1", "1_000", "1,000", " 1", "1 ", "1 2", " ", "x", "1x", "x1", "a", "-", "+", ".", "0 0", "5,", strings.Repeat("9", 1000), strings.Repeat("0", 1<<16), "1" + strings.Repeat("0", 1<<16)}
	for _, arg := range bad {
		for _, o := range idles() {
			checkAsk(t, o, c("REST", arg), o, 1)
		}
		for _, o := range []api.Order{busy("RETR", 1, false, 9), busy("REST", 1, true, -1), busy("NOOP", 7, false, 0), busy("RNFR", 8, false, top)} {
			checkAsk(t, o, c("REST", arg), o, 7)
		}
	}
	for arg := range good {
		for _, o := range underWay([]int{1, 7, 8}, []int{-1, 9}) {
			checkAsk(t, o, c("REST", arg), o, 7)
		}
	}
}

// P18.2: a REST of all numbers around 0 and 2^40, of one of each length, and with noughts ahead.
func TestAskOfManyNumbers(t *testing.T) {
	o := rest(true, 9)
	for n := -300; n <= 300; n++ {
		for _, at := range []int{0, 1 << 31, 1 << 32, top, math.MaxInt - 300} {
			arg := big.NewInt(int64(at + n)).String()
			want, no := o, api.Errno(1)
			if at+n >= 0 && at+n <= top {
				want, no = busy("REST", 1, false, at+n), 0
			}
			checkAsk(t, o, c("REST", arg), want, no)
			if n >= 0 {
				checkAsk(t, o, c("REST", "0"+arg), o, 1)
			}
		}
	}
	for n := 1; n <= 40; n++ {
		for _, arg := range []string{strings.Repeat("1", n), strings.Repeat("9", n), "1" + strings.Repeat("0", n), strings.Repeat("0", n)} {
			checkAskAsWanted(t, o, c("REST", arg))
		}
	}
}

// P18.2: a number told to another verb than REST starts nothing.
func TestAskOfNumbersOfOthers(t *testing.T) {
	for _, x := range rows {
		if x.arg == 0 || x.kind == start || x.kind == enter {
			continue
		}
		for _, arg := range []string{"0", "5", "1099511627776", "1099511627777", "x"} {
			want := busy(x.name, 1, false, -1)
			checkAsk(t, rest(true, -1), c(x.name, arg), want, 0)
			if x.kind == carry {
				want.Start = 9
			}
			checkAsk(t, rest(true, 9), c(x.name, arg), want, 0)
		}
	}
}

// P18.3: Heard, by hand.
func TestHeard(t *testing.T) {
	for _, x := range []struct {
		o    api.Order
		code int
		want api.Order
		end  bool
		no   api.Errno
	}{
		{fresh, 226, fresh, false, 7}, {fresh, 150, fresh, false, 7}, {fresh, 0, fresh, false, 7}, {rest(true, 9), 350, rest(true, 9), false, 7}, {rest(true, 9), 199, rest(true, 9), false, 7}, {busy("noop", 1, true, 9), 200, busy("noop", 1, true, 9), false, 7}, {busy("NOOP", 9, true, 9), 200, busy("NOOP", 9, true, 9), false, 7}, {busy("", 1, true, 9), 200, busy("", 1, true, 9), false, 7}, {busy("NOOP", 1, true, -2), 200, busy("NOOP", 1, true, -2), false, 7}, {busy("NOOP", 1, true, top+1), 150, busy("NOOP", 1, true, top+1), false, 7}, {busy("NOOP", 0, true, 9), 200, busy("NOOP", 0, true, 9), false, 7}, {busy("NOOP", -1, true, 9), 200, busy("NOOP", -1, true, 9), false, 7},
		{busy("NOOP", 1, false, -1), 200, fresh, true, 0}, {busy("NOOP", 1, false, -1), 500, fresh, true, 0}, {busy("NOOP", 1, false, -1), 350, fresh, true, 0}, {busy("NOOP", 1, false, -1), 199, busy("NOOP", 1, false, -1), false, 0}, {busy("NOOP", 1, false, -1), 120, busy("NOOP", 1, false, -1), false, 0}, {busy("NOOP", 1, false, -1), 0, busy("NOOP", 1, false, -1), false, 0}, {busy("NOOP", 1, false, -1), -200, busy("NOOP", 1, false, -1), false, 0}, {busy("NOOP", 1, false, -1), math.MinInt, busy("NOOP", 1, false, -1), false, 0}, {busy("NOOP", 1, false, -1), math.MaxInt, fresh, true, 0},
		{busy("NOOP", 2, false, -1), 200, busy("NOOP", 1, false, -1), false, 0}, {busy("NOOP", 8, false, -1), 200, busy("NOOP", 7, false, -1), false, 0}, {busy("NOOP", 8, false, -1), 199, busy("NOOP", 8, false, -1), false, 0},
		{busy("NOOP", 1, true, 9), 200, rest(true, 9), true, 0}, {busy("CWD", 1, true, 9), 250, rest(true, 9), true, 0}, {busy("PASV", 1, true, 9), 227, rest(true, 9), true, 0}, {busy("PORT", 1, true, 9), 200, rest(true, 9), true, 0}, {busy("RNTO", 1, true, 9), 250, rest(true, 9), true, 0}, {busy("ABOR", 1, true, 9), 350, rest(true, 9), true, 0}, {busy("QUIT", 1, true, 9), 221, rest(true, 9), true, 0}, {busy("USER", 1, true, 9), 350, rest(true, 9), true, 0},
		{busy("RNFR", 1, false, -1), 350, rest(true, -1), true, 0}, {busy("RNFR", 1, false, -1), 349, fresh, true, 0}, {busy("RNFR", 1, false, -1), 351, fresh, true, 0}, {busy("RNFR", 1, false, -1), 250, fresh, true, 0}, {busy("RNFR", 1, false, -1), 200, fresh, true, 0}, {busy("RNFR", 1, false, -1), 550, fresh, true, 0}, {busy("RNFR", 1, false, -1), 150, busy("RNFR", 1, false, -1), false, 0}, {busy("RNFR", 1, true, 9), 550, rest(false, 9), true, 0}, {busy("RNFR", 1, true, 9), 350, rest(true, 9), true, 0}, {busy("RNFR", 2, false, -1), 350, busy("RNFR", 1, false, -1), false, 0}, {busy("RNFR", 2, true, 9), 550, busy("RNFR", 1, true, 9), false, 0},
		{busy("REST", 1, false, 9), 350, rest(false, 9), true, 0}, {busy("REST", 1, false, 9), 349, fresh, true, 0}, {busy("REST", 1, false, 9), 351, fresh, true, 0}, {busy("REST", 1, false, 9), 250, fresh, true, 0}, {busy("REST", 1, false, 9), 501, fresh, true, 0}, {busy("REST", 1, false, 9), 150, busy("REST", 1, false, 9), false, 0}, {busy("REST", 1, true, 9), 200, rest(true, -1), true, 0}, {busy("REST", 1, true, top), 350, rest(true, top), true, 0}, {busy("REST", 1, true, -1), 350, rest(true, -1), true, 0}, {busy("REST", 2, false, 9), 501, busy("REST", 1, false, 9), false, 0}, {busy("REST", 2, false, 9), 350, busy("REST", 1, false, 9), false, 0},
		{busy("RETR", 1, false, 9), 226, fresh, true, 0}, {busy("RETR", 1, false, 9), 350, fresh, true, 0}, {busy("RETR", 1, true, 9), 426, rest(true, -1), true, 0}, {busy("RETR", 1, false, 9), 150, busy("RETR", 1, false, 9), false, 0}, {busy("RETR", 2, false, 9), 426, busy("RETR", 1, false, 9), false, 0}, {busy("STOR", 1, false, 0), 226, fresh, true, 0}, {busy("APPE", 1, false, top), 550, fresh, true, 0}, {busy("LIST", 1, false, 9), 226, fresh, true, 0}, {busy("NLST", 1, false, 9), 226, fresh, true, 0}, {busy("MLSD", 1, false, 9), 226, fresh, true, 0}, {busy("MLST", 1, false, 9), 250, rest(false, 9), true, 0},
	} {
		checkHeard(t, x.o, x.code, x.want, x.end, x.no)
	}
}

// codes are all from below 0 to beyond 600, and others.
func codes() []int {
	all := []int{math.MinInt, math.MinInt + 1, -top, -1 << 32, -600, -351, -350, -349, -200, -199, 1000, 1350, 3500, 65535, 65536, 65536 + 350, 1<<32 + 200, 1<<32 + 350, top, math.MaxInt - 1, math.MaxInt}
	for code := -10; code <= 610; code++ {
		all = append(all, code)
	}
	return all
}

// P18.3: of each verb there is, with 1, 2 and 8 replies waited for, each code: just below 200 nothing changes, and from there on Pend is one less.
func TestHeardOfAllCodes(t *testing.T) {
	all := codes()
	for _, o := range underWay([]int{1, 2, 8}, []int{9}) {
		for _, code := range all {
			end, no := checkHeardAsWanted(t, o, code)
			if no != 0 || end != (code >= 200 && o.Pend == 1) {
				t.Errorf("Heard(%+v, %d) told %t, %d", o, code, end, no)
			}
		}
		for code := range 200 {
			checkHeard(t, o, code, o, false, 0)
		}
		if o.Pend == 1 {
			continue
		}
		for code := 200; code <= 600; code++ {
			checkHeard(t, o, code, busy(o.Verb, o.Pend-1, o.From, o.Start), false, 0)
		}
	}
}

// P18.3: of each verb there is, each number of replies and each start: what the last reply leaves.
func TestHeardOfEachVerb(t *testing.T) {
	ends := 0
	some := []int{-1, 0, 100, 199, 200, 226, 250, 349, 350, 351, 426, 550, 600}
	for _, o := range underWay([]int{1, 2, 3, 4, 5, 6, 7, 8}, goodStarts) {
		for _, code := range some {
			end, _ := checkHeardAsWanted(t, o, code)
			if end {
				ends++
			}
		}
	}
	if want := 36 * len(goodStarts) * 2 * 9; ends != want {
		t.Errorf("%d ended, want %d", ends, want)
	}
}

// P18.3: what is left of one under way by its last reply, verb by verb, told by hand.
func TestHeardBehindEachKind(t *testing.T) {
	for _, x := range rows {
		for _, at := range goodStarts {
			for _, from := range []bool{false, true} {
				o := busy(x.name, 1, from, at)
				for _, code := range []int{200, 226, 349, 350, 351, 450, 550} {
					wantFrom, wantAt := from, at
					switch {
					case x.name == "RNFR":
						wantFrom = code == 350
					case x.name == "REST" && code != 350:
						wantAt = -1
					case slices.Contains([]string{"APPE", "LIST", "MLSD", "NLST", "RETR", "STOR"}, x.name):
						wantAt = -1
					}
					checkHeard(t, o, code, rest(wantFrom, wantAt), true, 0)
				}
			}
		}
	}
}

// P18.3: one that may not be, or is idle, is odd whatever the code, and stays.
func TestHeardOfNone(t *testing.T) {
	all := codes()
	for _, o := range []api.Order{fresh, rest(true, 9), rest(true, top), rest(false, -2), busy("", 1, false, 9), busy("RNFR", 0, false, 9), busy("REST", 9, true, 9), busy("RETR", -1, true, 9), busy("RNFR", 1, false, top+1), busy("rest", 1, false, 9), busy("SITE", 2, true, -1)} {
		for _, code := range all {
			checkHeard(t, o, code, o, false, 7)
		}
	}
	some := []int{math.MinInt, -1, 0, 150, 199, 200, 226, 350, 550, math.MaxInt}
	for _, o := range slices.Concat(idles(), odds()) {
		for _, code := range some {
			checkHeard(t, o, code, o, false, 7)
		}
	}
	for _, name := range badVerbs() {
		for _, pend := range []int{0, 1, 2, 8} {
			o := busy(name, pend, true, 9)
			checkHeard(t, o, 350, o, false, 7)
			checkHeard(t, o, 150, o, false, 7)
		}
	}
}

// told is what came of replies, one by one, and how often they ended one.
func told(t *testing.T, o api.Order, codes ...int) (api.Order, int) {
	t.Helper()
	ends := 0
	for _, code := range codes {
		end, no := checkHeardAsWanted(t, o, code)
		if no != 0 {
			t.Errorf("Heard(%+v, %d) told error %d", o, code, no)
		}
		if end {
			ends++
		}
		o, _, _ = Heard(o, code)
	}
	return o, ends
}

// P18.2, P18.3, P18.4: an ABOR behind a RNFR and a REST, with the codes of both in either order: the last reply of both tells.
func TestStopBehind(t *testing.T) {
	for _, x := range []struct {
		ask   api.Cmd
		codes []int
		want  api.Order
	}{
		{c("RNFR", "a"), []int{350, 226}, fresh}, {c("RNFR", "a"), []int{226, 350}, rest(true, -1)}, {c("RNFR", "a"), []int{350, 350}, rest(true, -1)}, {c("RNFR", "a"), []int{550, 226}, fresh}, {c("RNFR", "a"), []int{150, 226, 100, 350}, rest(true, -1)}, {c("RNFR", "a"), []int{350, 150, 199, 226}, fresh},
		{c("REST", "77"), []int{350, 226}, fresh}, {c("REST", "77"), []int{226, 350}, rest(false, 77)}, {c("REST", "77"), []int{350, 350}, rest(false, 77)}, {c("REST", "77"), []int{501, 226}, fresh}, {c("REST", "77"), []int{150, 226, 100, 350}, rest(false, 77)}, {c("REST", "77"), []int{350, 150, 199, 226}, fresh},
		{c("RETR", "a"), []int{350, 226}, fresh}, {c("RETR", "a"), []int{226, 350}, fresh}, {c("RETR", "a"), []int{150, 426, 226}, fresh}, {c("NOOP", ""), []int{226, 350}, fresh}, {c("NOOP", ""), []int{350, 226}, fresh},
	} {
		o, no := Ask(New(), x.ask)
		o, stopped := Ask(o, c("ABOR", ""))
		if no != 0 || stopped != 0 || o.Verb != x.ask.Verb || o.Pend != 2 || o.From {
			t.Errorf("an ABOR behind %q led to %+v, %d, %d", x.ask, o, no, stopped)
		}
		got, ends := told(t, o, x.codes...)
		if got != x.want || ends != 1 {
			t.Errorf("%q, ABOR and %v led to %+v, ended %d times, want %+v, once", x.ask, x.codes, got, ends, x.want)
		}
		checkAsk(t, got, c("ABOR", ""), got, 7)
	}
}

// P18.3: of as many ABORs as may be all are answered ahead of the end.
func TestManyStops(t *testing.T) {
	for _, ask := range []api.Cmd{c("RNFR", "a"), c("REST", "77"), c("RETR", "a"), c("NOOP", "")} {
		for stops := range 8 {
			for _, x := range [][2]int{{226, 350}, {350, 226}} {
				early, last := x[0], x[1]
				o, _ := Ask(New(), ask)
				for range stops {
					o, _ = Ask(o, c("ABOR", ""))
				}
				for n := stops; n > 0; n-- {
					checkAsk(t, o, c("NOOP", ""), o, 7)
					p, ends := told(t, o, 150, early)
					if ends != 0 || p.Pend != n || p.Verb != ask.Verb {
						t.Fatalf("%+v became %+v, and ended %d times", o, p, ends)
					}
					o = p
				}
				want := fresh
				want.From = ask.Verb == "RNFR" && last == 350
				if ask.Verb == "REST" && last == 350 {
					want.Start = 77
				}
				checkHeard(t, o, last, want, true, 0)
			}
		}
	}
}

// P18.4: all that may be stay so behind each call, whatever that is handed.
func TestStaysOneThatMayBe(t *testing.T) {
	asks := slices.Concat(goodCmds(), badCmds(), []api.Cmd{c("REST", "1099511627776"), c("REST", "1099511627777"), c("REST", "00")})
	some := []int{math.MinInt, -1, 0, 150, 199, 200, 226, 349, 350, 351, 421, 550, math.MaxInt}
	for _, o := range slices.Concat(idles(), underWay([]int{1, 2, 7, 8}, []int{-1, top})) {
		for _, c := range asks {
			if p, _ := Ask(o, c); !May(p) || !wantMay(p) {
				t.Fatalf("Ask(%+v, %q) led to %+v, which may not be", o, c, p)
			}
		}
		for _, code := range some {
			if p, _, _ := Heard(o, code); !May(p) || !wantMay(p) {
				t.Fatalf("Heard(%+v, %d) led to %+v, which may not be", o, code, p)
			}
		}
	}
}

// past is what there was from New on, as the tests keep it: the last command but ABORs, where it was told to start, how many replies are to come, and the last one that came.
type past struct {
	c     api.Cmd
	at    int
	waits int
	code  int
}

// renames tells whether a RNFR that was answered by 350 is right behind.
func (p past) renames() bool { return p.waits == 0 && p.c.Verb == "RNFR" && p.code == 350 }

// begins is where what is carried next starts: where the REST right behind told, if that was answered by 350.
func (p past) begins() int {
	if p.waits == 0 && p.c.Verb == "REST" && p.code == 350 {
		return p.at
	}
	return -1
}

// asked is what is past behind a command that may be, and which error that has to have.
func (p past) asked(c api.Cmd) (past, api.Errno) {
	kind := kindOf(c.Verb)
	switch {
	case kind == enter || kind == quit:
		return p, 1
	case kind == stop && p.waits >= 1 && p.waits <= 7:
		p.waits++
		return p, 0
	case kind == stop, p.waits > 0, kind == second && !p.renames():
		return p, 7
	case kind == start && wantNum(c.Arg) < 0:
		return p, 1
	}
	at := -1
	switch kind {
	case start:
		at = wantNum(c.Arg)
	case carry:
		at = p.begins()
	}
	return past{c: c, at: at, waits: 1}, 0
}

// heard is what is past behind a reply, and whether that has to have ended the command, and which error.
func (p past) heard(code int) (past, bool, api.Errno) {
	if p.waits == 0 {
		return p, false, 7
	}
	if code < 200 {
		return p, false, 0
	}
	p.waits--
	p.code = code
	return p, p.waits == 0, 0
}

// order is what has to be under way behind what is past.
func (p past) order() api.Order {
	if p.waits > 0 {
		return api.Order{Verb: p.c.Verb, Pend: p.waits, Start: p.at}
	}
	return api.Order{From: p.renames(), Start: p.begins()}
}

// step is a command that is asked, or, where that is empty, a reply.
type step struct {
	c    api.Cmd
	code int
}

// take takes a step, holds what came of it against the past, and tells both.
func take(t *testing.T, o api.Order, p past, s step) (api.Order, past) {
	t.Helper()
	before := o
	if s.c.Verb != "" {
		to, want := p.asked(s.c)
		got, no := Ask(o, s.c)
		if no != want || got != to.order() || no != 0 && got != o {
			t.Fatalf("behind %+v Ask(%+v, %q) = %+v, %d, want %+v, %d", p, o, s.c, got, no, to.order(), want)
		}
		o, p = got, to
	} else {
		to, wantEnd, want := p.heard(s.code)
		got, end, no := Heard(o, s.code)
		if no != want || end != wantEnd || got != to.order() || no != 0 && got != o {
			t.Fatalf("behind %+v Heard(%+v, %d) = %+v, %t, %d, want %+v, %t, %d", p, o, s.code, got, end, no, to.order(), wantEnd, want)
		}
		o, p = got, to
	}
	if !May(o) {
		t.Fatalf("%+v led to %+v, which may not be", before, o)
	}
	return o, p
}

// P18.4: from New on, all orders of up to six steps of some, and of up to four of more: what is under way is just what the past tells.
func TestAllShortPasts(t *testing.T) {
	some := []step{{c: c("RNFR", "a")}, {c: c("RNTO", "b")}, {c: c("REST", "77")}, {c: c("RETR", "f")}, {c: c("ABOR", "")}, {code: 350}, {code: 226}}
	more := slices.Concat(some, []step{{c: c("NOOP", "")}, {c: c("STOR", "f")}, {c: c("REST", "x")}, {c: c("REST", "0")}, {c: c("CWD", "a")}, {c: c("PASV", "")}, {c: c("QUIT", "")}, {code: 150}, {code: 550}, {code: 199}, {code: 200}})
	all, renamed, started := 0, 0, 0
	var walk func(o api.Order, p past, steps []step, n int)
	walk = func(o api.Order, p past, steps []step, n int) {
		all++
		if o.Verb == "RNTO" {
			renamed++
		}
		if o.Verb == "RETR" && o.Start == 77 {
			started++
		}
		if n == 0 {
			return
		}
		for _, s := range steps {
			to, next := take(t, o, p, s)
			walk(to, next, steps, n-1)
		}
	}
	walk(New(), past{}, some, 6)
	walk(New(), past{}, more, 4)
	if renamed < 100 || started < 100 {
		t.Errorf("of %d just %d renamed, and %d started elsewhere", all, renamed, started)
	}
}

// P18.4: from New on, by long orders of steps of chance, of each verb there is.
func TestStepsByChance(t *testing.T) {
	r := rand.New(rand.NewSource(181))
	likely := []api.Cmd{c("RNFR", "a"), c("RNTO", "b"), c("REST", "77"), c("RETR", "f"), c("ABOR", "")}
	others := slices.Concat(goodCmds(), []api.Cmd{c("REST", "1099511627776"), c("REST", "1099511627777")})
	renamed, started, full := 0, 0, 0
	for range 1000 {
		o, p := New(), past{}
		for range 60 {
			var s step
			switch r.Intn(6) {
			case 0:
				s.c = others[r.Intn(len(others))]
			case 1, 2:
				s.c = likely[r.Intn(len(likely))]
			case 3:
				s.c = c("ABOR", "")
			default:
				s.code = []int{150, 199, 200, 226, 350, 350, 350, 550}[r.Intn(8)]
			}
			o, p = take(t, o, p, s)
			switch {
			case o.Verb == "RNTO":
				renamed++
			case o.Verb == "RETR" && o.Start >= 0:
				started++
			case o.Pend == 8:
				full++
			}
		}
	}
	if renamed < 100 || started < 100 || full < 10 {
		t.Errorf("just %d renamed, %d started elsewhere, and %d waited for as many replies as may be", renamed, started, full)
	}
}

// R1, P1: whatever is handed in, each call ends and is what the tests have, by chance.
func TestChance(t *testing.T) {
	r := rand.New(rand.NewSource(182))
	verbs := slices.Concat([]string{"", "", ""}, names(), names(), badVerbs())
	args := []string{"", "a", "0", "5", "77", "05", "1099511627776", "1099511627777", "-1", " ", "a b", "\x00", "\xff", "a\r\n", strings.Repeat("9", 18), strings.Repeat("9", 19)}
	for range 30000 {
		o := busy(verbs[r.Intn(len(verbs))], r.Intn(12)-2, r.Intn(2) == 0, starts[r.Intn(len(starts))])
		switch r.Intn(10) {
		case 0:
			o.Pend, o.Start = int(r.Uint64()), int(r.Uint64())
		case 1, 2, 3:
			o.Verb, o.Pend = "", 0
		}
		checkMay(t, o, wantMay(o))
		checkAskAsWanted(t, o, c(verbs[r.Intn(len(verbs))], args[r.Intn(len(args))]))
		checkHeardAsWanted(t, o, r.Intn(700)-50)
		checkHeardAsWanted(t, o, int(r.Uint64()))
	}
}

// R3: what is handed in stays as it was, and what is answered is the caller's own.
func TestWhatIsHandedInStays(t *testing.T) {
	for _, o := range slices.Concat(idles(), underWay([]int{1, 8}, []int{-1, 9}), odds()) {
		for _, x := range rows {
			was, asked, did := o, with(x), with(x)
			p, _ := Ask(o, asked)
			q, _, _ := Heard(o, 350)
			p.Verb, p.Pend, p.From, p.Start = "x", p.Pend+1, !p.From, p.Start+1
			q.Verb, q.Pend, q.From, q.Start = "x", q.Pend+1, !q.From, q.Start+1
			if o != was || asked != did {
				t.Fatalf("%+v and %q became %+v and %q", was, did, o, asked)
			}
		}
	}
	o := New()
	o.From, o.Start = true, 5
	if New() != fresh {
		t.Errorf("New() became %+v", New())
	}
}

// R5: nothing hangs on what was asked before.
func TestAfterOthers(t *testing.T) {
	for i := range 50 {
		for _, x := range rows {
			for _, o := range []api.Order{fresh, rest(true, i), busy(x.name, 1+i%8, i%2 == 0, i), busy("x", i, true, -2)} {
				Ask(o, with(x))
				Heard(o, 200+i)
				Heard(o, 350)
				May(o)
			}
		}
		if New() != fresh {
			t.Fatal("New became another one")
		}
		checkAsk(t, fresh, c("RNTO", "b"), fresh, 7)
		checkAsk(t, rest(true, 9), c("RNTO", "b"), busy("RNTO", 1, false, -1), 0)
		checkAsk(t, rest(false, 9), c("RETR", "a"), busy("RETR", 1, false, 9), 0)
		checkHeard(t, busy("RNFR", 1, false, -1), 350, rest(true, -1), true, 0)
		checkHeard(t, busy("REST", 1, false, 9), 226, fresh, true, 0)
		checkHeard(t, busy("REST", 2, false, 9), 226, busy("REST", 1, false, 9), false, 0)
	}
}

// The numbers of the chapter are those of api.
func TestNumbers(t *testing.T) {
	if api.Enter != enter || api.Plain != plain || api.Dir != dir || api.Carry != carry || api.Listen != listen || api.Point != point || api.First != first || api.Second != second || api.Start != start || api.Stop != stop || api.Quit != quit || api.Kinds != 11 {
		t.Error("the kinds are others")
	}
	if api.OK != 0 || api.ErrArg != 1 || api.ErrOdd != 7 || api.Max != top || top != 1099511627776 {
		t.Error("the bounds and errors are others")
	}
}
