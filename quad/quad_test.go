package quad

import (
	"fmt"
	"math"
	"math/big"
	"strings"
	"testing"

	"wharfinger/api"
)

// digits are the digits of n by big-number division, so that the wanted text is not made as Num makes it.
func digits(n int) string {
	left, ten, one := big.NewInt(int64(n)), big.NewInt(10), new(big.Int)
	sign := ""
	if left.Sign() < 0 {
		sign = "-"
		left.Neg(left)
	}
	s := ""
	for s == "" || left.Sign() > 0 {
		left.QuoRem(left, ten, one)
		s = string(rune('0'+one.Int64())) + s
	}
	return sign + s
}

// numbers are ordinary ones, both sides of each count of digits, and the greatest and the least int with what lies beside them.
func numbers() []int {
	list := []int{math.MinInt, math.MinInt + 1, math.MaxInt, math.MaxInt - 1, 7, 42, 255, 256, 1024, 65535, 65536}
	for p, i := 1, 0; i <= 18; p, i = p*10, i+1 {
		list = append(list, p-1, p, p+1, -p+1, -p, -p-1)
	}
	return list
}

// P2.1
func TestNum(t *testing.T) {
	for _, x := range []struct {
		n    int
		want string
	}{
		{0, "0"}, {1, "1"}, {7, "7"}, {9, "9"}, {10, "10"}, {42, "42"}, {100, "100"}, {1007, "1007"},
		{-1, "-1"}, {-9, "-9"}, {-10, "-10"}, {-100, "-100"},
		{999999999999999999, "999999999999999999"}, {1000000000000000000, "1000000000000000000"},
		{math.MaxInt, "9223372036854775807"}, {math.MinInt, "-9223372036854775808"},
	} {
		if got := Num(x.n); got != x.want {
			t.Errorf("Num(%d) = %q, want %q", x.n, got, x.want)
		}
	}
	for _, n := range numbers() {
		if got, want := Num(n), digits(n); got != want {
			t.Errorf("Num(%d) = %q, want %q", n, got, want)
		}
	}
}

func checkGet(t *testing.T, s string, most, want int, wantIs bool) {
	t.Helper()
	if n, is := Get(s, most); n != want || is != wantIs {
		t.Errorf("Get(%q, %d) = %d, %v, want %d, %v", s, most, n, is, want, wantIs)
	}
}

// P2.1
func TestGet(t *testing.T) {
	for _, x := range []struct {
		s       string
		most, n int
	}{
		{"0", 0, 0}, {"0", 9, 0}, {"0", math.MaxInt, 0}, {"1", 1, 1}, {"9", 10, 9}, {"10", 10, 10},
		{"42", 99, 42}, {"100", 100, 100}, {"1007", 65535, 1007}, {"255", 255, 255}, {"65535", 65535, 65535},
		{"100000000000000000", math.MaxInt, 100000000000000000},
		{"999999999999999999", 999999999999999999, 999999999999999999},
		{"999999999999999999", math.MaxInt, 999999999999999999},
	} {
		checkGet(t, x.s, x.most, x.n, true)
	}
}

// P2.1: there is a number, but most is below it.
func TestGetBeyondMost(t *testing.T) {
	for _, x := range []struct {
		s    string
		most int
	}{
		{"0", -1}, {"0", math.MinInt}, {"1", 0}, {"1", -1}, {"1", math.MinInt}, {"10", 9}, {"256", 255}, {"65536", 65535},
		{"999999999999999999", 999999999999999998}, {"999999999999999999", 0},
	} {
		checkGet(t, x.s, x.most, 0, false)
	}
}

// P2.1: from 19 bytes on there is none, also where the number itself would do.
func TestGetTooLong(t *testing.T) {
	for _, s := range []string{
		"1000000000000000000", "9223372036854775807", "9223372036854775808", "18446744073709551617", "-999999999999999999",
		"0000000000000000000", "0000000000000000001", strings.Repeat("9", 400), strings.Repeat("0", 1<<20),
	} {
		checkGet(t, s, math.MaxInt, 0, false)
	}
}

// wrongNumbers are no Num of any number from 0 on.
var wrongNumbers = []string{
	"", "00", "01", "007", "010", "000000000000000000", "000000000000000001", "099999999999999999",
	"-", "+", "-0", "-1", "-10", "+0", "+1", "--1", "- 1",
	" ", " 1", "1 ", "1 2", "\t1", "1\n", "1\r", "1\x00", "\x001",
	"x", "1x", "x1", "1x1", "a", "0x1", "0b1", "0o7", "1_0", "_1", "1e1", "1.0", ".", "1.", ".1", "1,0", ",",
	"/", ":", "1/", "1:", "\xff", "1\xff", "\u0661", "\uff11", "\u00b2",
	"inf", "NaN", "-9223372036854775808",
}

// P2.1
func TestGetWrong(t *testing.T) {
	for _, s := range wrongNumbers {
		for _, most := range []int{math.MaxInt, 99, 0, -1, -10, math.MinInt} {
			checkGet(t, s, most, 0, false)
		}
	}
}

// P2.1: of all texts of one byte the ten digits are numbers, and of two those that no 0 is ahead of.
func TestGetShortTexts(t *testing.T) {
	for a := range 256 {
		one := string([]byte{byte(a)})
		digit := a >= '0' && a <= '9'
		n := 0
		if digit {
			n = a - '0'
		}
		checkGet(t, one, math.MaxInt, n, digit)
		for b := range 256 {
			two := string([]byte{byte(a), byte(b)})
			if digit && a != '0' && b >= '0' && b <= '9' {
				checkGet(t, two, math.MaxInt, 10*n+b-'0', true)
			} else {
				checkGet(t, two, math.MaxInt, 0, false)
			}
		}
	}
}

// P2.2
func TestText(t *testing.T) {
	for _, x := range []struct {
		h    api.Host
		want string
	}{
		{api.Host{}, "0.0.0.0"}, {api.Host{10, 0, 0, 1}, "10.0.0.1"}, {api.Host{1, 2, 3, 4}, "1.2.3.4"},
		{api.Host{9, 10, 99, 100}, "9.10.99.100"}, {api.Host{127, 128, 199, 200}, "127.128.199.200"},
		{api.Host{192, 168, 0, 255}, "192.168.0.255"}, {api.Host{255, 255, 255, 255}, "255.255.255.255"},
	} {
		if got := Text(x.h); got != x.want {
			t.Errorf("Text(%v) = %q, want %q", x.h, got, x.want)
		}
	}
}

func checkRead(t *testing.T, s string, want api.Host, wantIs bool) {
	t.Helper()
	if h, is := Read(s); h != want || is != wantIs {
		t.Errorf("Read(%q) = %v, %v, want %v, %v", s, h, is, want, wantIs)
	}
}

// P2.2
func TestRead(t *testing.T) {
	for _, x := range []struct {
		s string
		h api.Host
	}{
		{"0.0.0.0", api.Host{}}, {"10.0.0.1", api.Host{10, 0, 0, 1}}, {"1.2.3.4", api.Host{1, 2, 3, 4}},
		{"9.10.99.100", api.Host{9, 10, 99, 100}}, {"127.128.199.200", api.Host{127, 128, 199, 200}},
		{"192.168.0.255", api.Host{192, 168, 0, 255}}, {"255.255.255.255", api.Host{255, 255, 255, 255}},
	} {
		checkRead(t, x.s, x.h, true)
	}
}

// P2.2
func TestReadWrong(t *testing.T) {
	for _, s := range []string{
		"", ".", "..", "...", "....", "1", "1.2", "1.2.3", "1.2.3.", ".1.2.3", ".1.2.3.4", "1.2.3.4.", "1.2.3.4..", "1.2.3.4.5", "1.2.3.4.5.6",
		"1..2.3", "1...4", "1.2..4", "1..2.3.4", "0.0.0", "0.0.0.0.0", "0.0.0.0.", "0.0.0.",
		"10.0.0.01", "10.0.00.1", "10.00.0.1", "010.0.0.1", "00.0.0.0", "0.0.0.00", "10.0.0.001", "10.0.0.0000000000000000001",
		"256.0.0.0", "0.256.0.0", "0.0.256.0", "0.0.0.256", "1.2.3.257", "1.2.3.300", "1.2.3.512", "1.2.3.999", "1.2.3.65536", "1.2.3.4294967296",
		"1.2.3.1000000000000000000", "1.2.3.18446744073709551616",
		"-1.2.3.4", "1.2.3.-4", "1.2.3.-0", "+1.2.3.4", "1.2.3.+4", " 1.2.3.4", "1.2.3.4 ", "1.2. 3.4", "1.2.3.4\n", "1.2.3.4\x00",
		"1,2,3,4", "1.2.3,4", "1:2:3:4", "a.b.c.d", "1.2.3.a", "0x1.2.3.4", "1.2.3.0x4", "1.2.3.4/8", "1.2.3.4:21", "::1", "[1.2.3.4]",
		"16909060", "1.2.772", "\xff.2.3.4", "1.2.3.\u0664", "1\u30022\u30023\u30024",
		"1.2.3.4" + strings.Repeat(".5", 1<<16), strings.Repeat(".", 1<<16), strings.Repeat("1", 1<<16),
	} {
		checkRead(t, s, api.Host{}, false)
	}
}

// P2.2: one wrong part at each place spoils the address, whatever the other three are.
func TestReadWrongPart(t *testing.T) {
	for _, wrong := range append([]string{"256", "1000"}, wrongNumbers...) {
		for place := range 4 {
			for _, other := range []string{"0", "7", "255"} {
				parts := []string{other, other, other, other}
				parts[place] = wrong
				checkRead(t, strings.Join(parts, "."), api.Host{}, false)
			}
		}
	}
}

// P2.3
func TestNumberWrittenIsRead(t *testing.T) {
	for _, n := range numbers() {
		if n < 0 || n > 999999999999999999 {
			checkGet(t, Num(n), math.MaxInt, 0, false)
			continue
		}
		for _, most := range []int{n, n + 1, math.MaxInt} {
			checkGet(t, Num(n), most, n, true)
		}
		checkGet(t, Num(n), n-1, 0, false)
	}
}

// P2.3: every number of a byte at every place, among several others.
func TestAddressWrittenIsRead(t *testing.T) {
	others := []byte{0, 1, 10, 100, 255}
	for i := range 256 {
		for place := range 4 {
			for k := range others {
				h := api.Host{others[k], others[(k+1)%5], others[(k+2)%5], others[(k+3)%5]}
				h[place] = byte(i)
				want := fmt.Sprintf("%d.%d.%d.%d", h[0], h[1], h[2], h[3])
				if got := Text(h); got != want {
					t.Errorf("Text(%v) = %q, want %q", h, got, want)
				}
				checkRead(t, Text(h), h, true)
			}
		}
	}
}

// P2.3: what is read is written as it was, for texts of the bytes that numbers and addresses are made of, and some beside them.
func TestWrittenInOneWay(t *testing.T) {
	alphabet := "0129.+- "
	var all func(s string, left int)
	all = func(s string, left int) {
		if n, is := Get(s, math.MaxInt); is && Num(n) != s {
			t.Errorf("Get(%q) = %d, which is written %q", s, n, Num(n))
		}
		for _, address := range []string{s + ".0.1", "1.0." + s, "9." + s + ".0"} {
			if h, is := Read(address); is && Text(h) != address {
				t.Errorf("Read(%q) = %v, which is written %q", address, h, Text(h))
			}
		}
		for i := 0; left > 0 && i < len(alphabet); i++ {
			all(s+alphabet[i:i+1], left-1)
		}
	}
	all("", 5)
}
