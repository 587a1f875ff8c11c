package act

import (
	"math"
	"strings"
	"testing"

	"matryoshka/api"
)

// P3.3: Show, Parse.

func TestShowAndParse(t *testing.T) {
	const place, word = "9223372036854775807", "18446744073709551615"
	for _, c := range []struct {
		a    api.Act
		want string
	}{
		{load(0), "load 0"},
		{load(1), "load 1"},
		{load(10), "load 10"},
		{load(math.MaxInt), "load " + place},
		{store(0, 0), "store 0 0"},
		{store(1, 1), "store 1 1"},
		{store(65535, 1<<63), "store 65535 9223372036854775808"},
		{store(math.MaxInt, most), "store " + place + " " + word},
		{cas(0, 0, 0), "cas 0 0 0"},
		{cas(3, 1, 2), "cas 3 1 2"},
		{cas(1, 0, 1), "cas 1 0 1"},
		{cas(0, most, 0), "cas 0 " + word + " 0"},
		{cas(0, 0, most), "cas 0 0 " + word},
		{cas(math.MaxInt, most, most), "cas " + place + " " + word + " " + word},
		{add(0, 0), "add 0 0"},
		{add(5, 6), "add 5 6"},
		{add(1, 1), "add 1 1"},
		{add(math.MaxInt, most), "add " + place + " " + word},
	} {
		if s := Show(c.a); s != c.want {
			t.Errorf("Show(%v) = %q, want %q", c.a, s, c.want)
		}
		if a, ok := Parse(c.want); !ok || a != c.a {
			t.Errorf("Parse(%q) = %v, %t", c.want, a, ok)
		}
	}
}

func TestShowOfNoText(t *testing.T) {
	var l []api.Act
	for _, kind := range noKinds() {
		l = append(l, of(kind, 0), of(kind, 1), api.Act{Kind: kind, A: 1, B: 1})
	}
	for _, at := range []int{-1, -2, -1 << 32, math.MinInt} {
		for _, kind := range kinds() {
			l = append(l, of(kind, at))
		}
	}
	for _, v := range []uint64{1, 1 << 32, 1 << 63, most} {
		l = append(l,
			api.Act{Kind: api.ActLoad, A: v},
			api.Act{Kind: api.ActLoad, B: v},
			api.Act{Kind: api.ActLoad, A: v, B: v},
			api.Act{Kind: api.ActStore, B: v},
			api.Act{Kind: api.ActStore, A: v, B: v},
			api.Act{Kind: api.ActAdd, B: v},
			api.Act{Kind: api.ActAdd, A: v, B: v},
		)
	}
	for _, a := range l {
		if s := Show(a); s != "" {
			t.Errorf("Show(%v) = %q", a, s)
		}
	}
}

func TestParseOfNoAct(t *testing.T) {
	l := []string{
		"", " ", "  ", "   ", "    ", "     ", "0", "1", "load", "store", "cas", "add",
		"load ", "load  ", "store 1", "store 1 ", "cas 1", "cas 1 2", "cas 1 2 ", "add 1", "add  1",
		"load 1 2", "load 1 0", "load 1 2 3", "store 1 2 3", "store 1 2 0", "add 1 2 3", "cas 1 2 3 4", "cas 1 2 3 4 5", "cas 1 2 3 4 5 6",
		"mul 1 2", "swap 1 2 3", "l 1", "loads 1", "loa 1", "xload 1", "load1", "load1 1", "store1 2", "1 load", "none", "none 1", "cas cas 1 2",
		"Load 1", "LOAD 1", "lOAD 1", "Store 1 2", "STORE 1 2", "CAS 1 2 3", "Cas 1 2 3", "ADD 1 2",
		" load 1", "load 1 ", "load  1", "load 1  ", " store 1 2", "store 1  2", "store  1 2", "store 1 2 ", "cas 1 2  3", "cas 1  2 3", "cas 1 2 3 ", "add 1 2 ", "add 1  2",
		"load -1", "load +1", "load -0", "load +0", "store +1 2", "store 1 -2", "store 1 +2", "cas 1 +2 3", "cas 1 2 -3", "add 1 -0", "add -1 1",
		"load 01", "load 00", "load 007", "store 01 2", "store 1 02", "store 1 00", "cas 1 02 3", "cas 1 2 03", "cas 00 2 3", "add 01 1", "add 1 01",
		"load 9223372036854775808", "load 18446744073709551615", "load 18446744073709551616", "load 99999999999999999999999999",
		"store 9223372036854775808 0", "cas 9223372036854775808 1 2", "add 18446744073709551615 1",
		"store 1 18446744073709551616", "cas 1 18446744073709551616 0", "cas 1 0 18446744073709551616", "add 1 18446744073709551616", "add 1 36893488147419103233",
		"add x 1", "add 1 x", "load x", "load 1x", "load x1", "load 0x1", "load 0b1", "load 0o1", "load 1_0", "load 1.0", "load 1e1", "load 1,0", "load 1;", "load (1)",
		"load\t1", "load 1\n", "load 1\r\n", "\nload 1", "load\n1", "load 1\x00", "load\x00 1", "load \x001", "\x00load 1", "\xff\xfe", "load \xff", "load 1\xff", "\x80 1", "load\u00a01", "load \u0661", "load \uff11", "l\u00f6ad 1", "\ufeffload 1",
		"load 1 load 1", "load 1,store 1 2",
		strings.Repeat(" ", 1000), "load " + strings.Repeat("0", 1000), "load " + strings.Repeat("9", 1000), "load" + strings.Repeat(" 1", 1000), strings.Repeat("load 1 ", 1000),
	}
	for _, s := range l {
		if a, ok := Parse(s); ok || a != (api.Act{}) {
			t.Errorf("Parse(%q) = %v, %t", s, a, ok)
		}
	}
}

// TestParseTakesWhatIsShownAlone: each text with one byte more, less or another one is an act only if it is shown so.
func TestParseTakesWhatIsShownAlone(t *testing.T) {
	bytes := []byte("0129 -+lsca\x00\xff")
	for _, s := range []string{"load 0", "load 10", "store 1 20", "cas 3 1 2", "add 5 0"} {
		for at := 0; at <= len(s); at++ {
			var near []string
			for _, b := range bytes {
				near = append(near, s[:at]+string([]byte{b})+s[at:])
				if at < len(s) {
					near = append(near, s[:at]+string([]byte{b})+s[at+1:])
				}
			}
			if at < len(s) {
				near = append(near, s[:at]+s[at+1:], s[:at])
			}
			for _, n := range near {
				a, ok := Parse(n)
				if ok && Show(a) != n || !ok && a != (api.Act{}) {
					t.Errorf("Parse(%q) = %v, %t", n, a, ok)
				}
			}
		}
	}
}

// TestShowAndParseGoBothWays: an act with a text is the one that its text has.
func TestShowAndParseGoBothWays(t *testing.T) {
	next := numbers(11)
	texts := 0
	for range 20000 {
		a := anyAct(next)
		s := Show(a)
		if s == "" {
			continue
		}
		texts++
		if b, ok := Parse(s); !ok || a != b {
			t.Errorf("Parse(%q) = %v, %t, not %v", s, b, ok, a)
		}
	}
	if texts < 1000 {
		t.Error("too few have a text:", texts)
	}
}
