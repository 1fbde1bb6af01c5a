package verb

import (
	"slices"
	"strconv"
	"strings"
	"testing"

	"wharfinger/api"
)

// verbs is the document's table, as it stands there.
const verbs = `
| ABOR | Stop | 0 | no |
| ACCT | Enter | 2 | no |
| ALLO | Plain | 2 | no |
| APPE | Carry | 2 | yes |
| CDUP | Dir | 0 | no |
| CWD | Dir | 2 | yes |
| DELE | Plain | 2 | yes |
| EPRT | Point | 2 | no |
| EPSV | Listen | 0 | no |
| FEAT | Plain | 0 | no |
| HELP | Plain | 1 | no |
| LIST | Carry | 1 | yes |
| MDTM | Plain | 2 | yes |
| MKD | Plain | 2 | yes |
| MLSD | Carry | 1 | yes |
| MLST | Plain | 1 | yes |
| MODE | Plain | 2 | no |
| NLST | Carry | 1 | yes |
| NOOP | Plain | 0 | no |
| PASS | Enter | 1 | no |
| PASV | Listen | 0 | no |
| PORT | Point | 2 | no |
| PWD | Plain | 0 | no |
| QUIT | Quit | 0 | no |
| REST | Start | 2 | no |
| RETR | Carry | 2 | yes |
| RMD | Plain | 2 | yes |
| RNFR | First | 2 | yes |
| RNTO | Second | 2 | yes |
| SIZE | Plain | 2 | yes |
| STAT | Plain | 1 | yes |
| STOR | Carry | 2 | yes |
| STRU | Plain | 2 | no |
| SYST | Plain | 0 | no |
| TYPE | Plain | 2 | no |
| USER | Enter | 2 | no |
`

// count is how many rows the document's table has.
const count = 36

// kinds are the kinds' names, by the order that the document gives them.
const kinds = "Enter Plain Dir Carry Listen Point First Second Start Stop Quit"

// readRow is a row of the document's table as a verb.
func readRow(t *testing.T, row string) api.Verb {
	t.Helper()
	cells := strings.Split(strings.Trim(row, "| "), " | ")
	if len(cells) != 4 {
		t.Fatalf("the row %q has %d cells", row, len(cells))
	}
	kind := slices.Index(strings.Fields(kinds), cells[1])
	arg, err := strconv.Atoi(cells[2])
	path := slices.Index([]string{"no", "yes"}, cells[3])
	if kind < 0 || err != nil || path < 0 {
		t.Fatalf("the row %q is none", row)
	}
	return api.Verb{Name: cells[0], Kind: kind, Arg: arg, Path: path == 1}
}

func wantVerbs(t *testing.T) []api.Verb {
	t.Helper()
	var all []api.Verb
	for row := range strings.Lines(strings.TrimSpace(verbs)) {
		all = append(all, readRow(t, strings.TrimSpace(row)))
	}
	if len(all) != count {
		t.Fatalf("the document's table has %d rows, want %d", len(all), count)
	}
	return all
}

func checkFind(t *testing.T, name string, want api.Verb, wantIs bool) {
	t.Helper()
	if v, is := Find(name); v != want || is != wantIs {
		t.Errorf("Find(%q) = %+v, %t, want %+v, %t", name, v, is, want, wantIs)
	}
}

// checkNone: a name that no verb has is told as noughts and false.
func checkNone(t *testing.T, name string) {
	t.Helper()
	checkFind(t, name, api.Verb{}, false)
}

func checkUpper(t *testing.T, s, want string) {
	t.Helper()
	if got := Upper(s); got != want {
		t.Errorf("Upper(%q) = %q, want %q", s, got, want)
	}
}

const great, small = "ABCDEFGHIJKLMNOPQRSTUVWXYZ", "abcdefghijklmnopqrstuvwxyz"

// lower is a name in small letters, one found beside the other in two alphabets.
func lower(name string) string {
	b := []byte(name)
	for i, c := range b {
		if at := strings.IndexByte(great, c); at >= 0 {
			b[i] = small[at]
		}
	}
	return string(b)
}

// inEachMixture calls back with a name in great letters, in small ones, and in all mixtures of both.
func inEachMixture(name string, f func(s string)) {
	little := lower(name)
	for mask := range 1 << len(name) {
		b := []byte(name)
		for i := range b {
			if mask>>i&1 == 1 {
				b[i] = little[i]
			}
		}
		f(string(b))
	}
}

// everyByte calls back with each of the 256 bytes, as a text.
func everyByte(f func(s string)) {
	for c := range 256 {
		f(string([]byte{byte(c)}))
	}
}

// P7.1: all verbs of the document's table, each with its name, kind and argument, by rising names.
func TestAll(t *testing.T) {
	want, got := wantVerbs(t), All()
	if len(got) != count {
		t.Fatalf("All() has %d verbs, want %d", len(got), count)
	}
	for i, v := range got {
		if v != want[i] {
			t.Errorf("All()[%d] = %+v, want %+v", i, v, want[i])
		}
	}
	for i := 1; i < len(got); i++ {
		if got[i-1].Name >= got[i].Name {
			t.Errorf("All() has %q ahead of %q", got[i-1].Name, got[i].Name)
		}
	}
}

// P7.1: the verbs of each kind, as the kinds' constants of api name them, so that a kind is not only a number of the table's own.
func TestAllByKind(t *testing.T) {
	of := map[int][]string{
		api.Enter:  {"ACCT", "PASS", "USER"},
		api.Dir:    {"CDUP", "CWD"},
		api.Carry:  {"APPE", "LIST", "MLSD", "NLST", "RETR", "STOR"},
		api.Listen: {"EPSV", "PASV"},
		api.Point:  {"EPRT", "PORT"},
		api.First:  {"RNFR"},
		api.Second: {"RNTO"},
		api.Start:  {"REST"},
		api.Stop:   {"ABOR"},
		api.Quit:   {"QUIT"},
		api.Plain: {
			"ALLO", "DELE", "FEAT", "HELP", "MDTM", "MKD", "MLST", "MODE", "NOOP",
			"PWD", "RMD", "SIZE", "STAT", "STRU", "SYST", "TYPE",
		},
	}
	got := make([][]string, api.Kinds)
	for _, v := range All() {
		if v.Kind < 0 || v.Kind >= api.Kinds {
			t.Fatalf("All() has %+v, of no kind", v)
		}
		got[v.Kind] = append(got[v.Kind], v.Name)
	}
	for kind, names := range got {
		if !slices.Equal(names, of[kind]) {
			t.Errorf("All() has of kind %d %v, want %v", kind, names, of[kind])
		}
	}
}

// P7.1: a verb is found by its name, in great letters, in small ones, and in each mixture of both.
func TestFind(t *testing.T) {
	for _, v := range wantVerbs(t) {
		checkFind(t, v.Name, v, true)
		checkFind(t, lower(v.Name), v, true)
		inEachMixture(v.Name, func(s string) { checkFind(t, s, v, true) })
	}
}

// P7.1: the chapter's example.
func TestFindRetr(t *testing.T) {
	checkFind(t, "retr", api.Verb{Name: "RETR", Kind: api.Carry, Arg: 2, Path: true}, true)
}

// P7.1: what All tells is what Find does, in each call anew.
func TestAllIsFound(t *testing.T) {
	for _, v := range All() {
		checkFind(t, v.Name, v, true)
	}
	if a, b := All(), All(); !slices.Equal(a, b) {
		t.Errorf("All() = %v, and then %v", a, b)
	}
}

// P7.1: names that no verb has.
func TestFindNone(t *testing.T) {
	for _, name := range []string{
		"", " ", "\x00", "\r", "\n", "\r\n", "?", "*", "A", "a", "Z",
		"SITE", "REIN", "SMNT", "STOU", "OPTS", "AUTH", "PBSZ", "PROT", "LANG", "HOST", "XCWD", "XMKD", "XPWD", "CLNT",
		"RETR x", "retr /a", "RETR\r\n", "RETR\n", "RETR\t", "USER me@ftp.a", "RETRRETR", "RETRSTOR", "RNFR RNTO",
		"RE", "RET", "ETR", "PW", "CW", "MK", "CWDD", "PWDX", "LISTS", "0", "1", "2", "Plain", "Carry", "|", "ABOR|",
		"RÉTR", "rétr", "ſtor", "\uff33TOR", "\xd2ETR", "\xf2etr", "RETR\xff", "\xff\xfe", "R\xc5\xbfTR",
		strings.Repeat("A", 512), strings.Repeat("RETR", 1<<16), strings.Repeat("x", 1<<20), strings.Repeat("\x00", 4),
	} {
		checkNone(t, name)
	}
	for v := range verbsAround(t) {
		checkNone(t, v)
	}
}

// verbsAround are all names with a byte more ahead or behind, or one less at either end; no verb's name is another one's, but for such a byte.
func verbsAround(t *testing.T) map[string]int {
	t.Helper()
	around := map[string]int{}
	for _, v := range wantVerbs(t) {
		around[v.Name[1:]]++
		around[v.Name[:len(v.Name)-1]]++
		around[v.Name[:1]+v.Name[2:]]++
		everyByte(func(s string) {
			around[s+v.Name]++
			around[v.Name+s]++
			around[v.Name[:1]+s+v.Name[1:]]++
		})
	}
	for _, v := range wantVerbs(t) {
		if around[v.Name] > 0 {
			t.Fatalf("%q is another verb's name with a byte more or less", v.Name)
		}
	}
	return around
}

// P7.1: each name with each byte at each place: it is found if that is the letter there, great or small, or makes another verb's name of it.
func TestFindEveryByte(t *testing.T) {
	want := map[string]api.Verb{}
	for _, v := range wantVerbs(t) {
		want[v.Name] = v
	}
	for _, v := range wantVerbs(t) {
		for at := range len(v.Name) {
			everyByte(func(s string) {
				name, up := v.Name[:at]+s+v.Name[at+1:], s
				if i := strings.Index(small, s); i >= 0 {
					up = great[i : i+1]
				}
				w, is := want[v.Name[:at]+up+v.Name[at+1:]]
				checkFind(t, name, w, is)
			})
		}
	}
}

// P7.1: of all texts of three letters only those are verbs that the table has.
func TestFindThreeLetters(t *testing.T) {
	found := []string{}
	for _, a := range great {
		for _, b := range great {
			for _, c := range great {
				name := string([]rune{a, b, c})
				if v, is := Find(name); is {
					found = append(found, v.Name)
				} else if v != (api.Verb{}) {
					t.Errorf("Find(%q) = %+v, false", name, v)
				}
			}
		}
	}
	if want := []string{"CWD", "MKD", "PWD", "RMD"}; !slices.Equal(found, want) {
		t.Errorf("the verbs of three letters are %v, want %v", found, want)
	}
}

// P7.1: Upper of texts.
func TestUpper(t *testing.T) {
	for _, c := range []struct{ s, want string }{
		{"", ""},
		{"retr", "RETR"},
		{"RETR", "RETR"},
		{"ReTr", "RETR"},
		{small, great},
		{great, great},
		{"aZ{`1", "AZ{`1"},
		{"`az{", "`AZ{"},
		{"@AZ[", "@AZ["},
		{" a\x00b ", " A\x00B "},
		{"user me@ftp.a", "USER ME@FTP.A"},
		{"0123456789", "0123456789"},
		{"é", "é"},
		{"aéa", "AéA"},
		{"ß", "ß"},
		{"ſ", "ſ"},
		{"ı", "ı"},
		{"\xe9", "\xe9"},
		{"a\xffz", "A\xffZ"},
		{"\xe1\xfa", "\xe1\xfa"},
		{"a\xc3", "A\xc3"},
		{"\xc3a", "\xc3A"},
		{"\xed\xa0\x80x", "\xed\xa0\x80X"},
		{"\r\n\t", "\r\n\t"},
		{"我a", "我A"},
		{"ａ", "ａ"},
		{strings.Repeat("ab\xe1", 1<<16), strings.Repeat("AB\xe1", 1<<16)},
	} {
		checkUpper(t, c.s, c.want)
	}
}

// upperByte is what Upper is to make of a byte, found beside it in two alphabets.
func upperByte(s string) string {
	if i := strings.Index(small, s); i >= 0 {
		return great[i : i+1]
	}
	return s
}

// P7.1: Upper of each byte, alone and beside each other one.
func TestUpperEveryByte(t *testing.T) {
	everyByte(func(a string) {
		checkUpper(t, a, upperByte(a))
		everyByte(func(b string) { checkUpper(t, a+b, upperByte(a)+upperByte(b)) })
		checkUpper(t, "r"+a+"R", "R"+upperByte(a)+"R")
	})
}

// P7.1: Upper of what is Upper already changes nothing, and takes nothing away.
func TestUpperTwice(t *testing.T) {
	for _, s := range []string{"", "retr", "aéz", "\xff\x80a", small + great, strings.Repeat("q", 1000)} {
		up := Upper(s)
		checkUpper(t, up, up)
		if len(up) != len(s) {
			t.Errorf("Upper(%q) has %d bytes, want %d", s, len(up), len(s))
		}
	}
}

// P7.2: no two verbs have one name, also if one is written in small letters; each name is as verbs are.
func TestNamesDiffer(t *testing.T) {
	seen := map[string]int{}
	for _, v := range All() {
		seen[strings.ToLower(v.Name)]++
		if v.Name == "" || strings.Trim(v.Name, great) != "" {
			t.Errorf("All() has the name %q", v.Name)
		}
	}
	for name, n := range seen {
		if n != 1 {
			t.Errorf("All() has %q %d times", name, n)
		}
	}
	if len(seen) != count {
		t.Errorf("All() has %d names, want %d", len(seen), count)
	}
}

// P7.2: what has a path has an argument, and of those that have one some have no path.
func TestPathIsArgument(t *testing.T) {
	for _, v := range All() {
		if v.Path && v.Arg == 0 {
			t.Errorf("All() has %+v, a path that is no argument", v)
		}
		if v.Arg < 0 || v.Arg > 2 {
			t.Errorf("All() has %+v", v)
		}
	}
}

// R3: what All answered, written over or with more put behind it, changes neither a later answer nor what Find tells.
func TestAllIsTheCallersOwn(t *testing.T) {
	want := wantVerbs(t)
	first, other := All(), All()
	_ = append(first[:1], api.Verb{Name: "PUT"}, api.Verb{Name: "PUT"})
	_ = append(first, api.Verb{Name: "SITE"})
	for i := range first {
		first[i] = api.Verb{Name: "SITE", Kind: api.Kinds, Arg: -1, Path: true}
	}
	if !slices.Equal(other, want) || !slices.Equal(All(), want) {
		t.Error("All() changed with an earlier answer that was written over")
	}
	for _, v := range want {
		checkFind(t, v.Name, v, true)
	}
	checkNone(t, "SITE")
	checkNone(t, "PUT")
}

// R5: what was asked ahead changes nothing.
func TestFindAfterOthers(t *testing.T) {
	want := wantVerbs(t)
	for _, a := range want {
		for _, b := range want {
			checkFind(t, b.Name, b, true)
			checkNone(t, a.Name+b.Name)
			checkFind(t, a.Name, a, true)
		}
	}
}
