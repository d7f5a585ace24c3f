package loc_test

import (
	"math"
	"strings"
	"testing"

	"joinery/api"
	"joinery/loc"
)

// texts are those of all places, by their numbers, written out.
func texts() []string {
	return []string{
		"r0", "r1", "r2", "r3", "r4", "r5", "r6", "r7",
		"s0", "s1", "s2", "s3", "s4", "s5", "s6", "s7", "s8", "s9", "s10", "s11", "s12", "s13", "s14", "s15",
	}
}

// noPlaces are numbers on either side of the places, and far off, where a narrower number would be a place's.
func noPlaces() []int {
	l := []int{math.MinInt, math.MinInt + 1, math.MinInt + 23, math.MaxInt, math.MaxInt - 1, -1 << 32, 1 << 32, 1<<32 + 7, 1<<16 + 3, 1<<8 + 3, -1<<63 + 8}
	for n := -300; n < 0; n++ {
		l = append(l, n)
	}
	for n := 24; n < 300; n++ {
		l = append(l, n)
	}
	return l
}

// P2.1
func TestPlacesAreAllThere(t *testing.T) {
	if len(texts()) != api.Locs || api.Regs != 8 || api.Regs+api.Slots != api.Locs {
		t.Fatalf("%d texts of %d places", len(texts()), api.Locs)
	}
}

// P2.1
func TestRight(t *testing.T) {
	for l := range texts() {
		if !loc.Right(l) {
			t.Errorf("Right(%d): false", l)
		}
	}
	for _, l := range noPlaces() {
		if loc.Right(l) {
			t.Errorf("Right(%d): true", l)
		}
	}
}

// P2.1
func TestReg(t *testing.T) {
	for l, s := range texts() {
		if loc.Reg(l) != strings.HasPrefix(s, "r") {
			t.Errorf("Reg(%d), %s: %t", l, s, loc.Reg(l))
		}
	}
	for _, l := range noPlaces() {
		if loc.Reg(l) {
			t.Errorf("Reg(%d): true", l)
		}
	}
}

// P2.1
func TestText(t *testing.T) {
	for l, want := range texts() {
		if s, e := loc.Text(l); s != want || e != api.OK {
			t.Errorf("Text(%d): %q, %d; not %s", l, s, e, want)
		}
	}
}

// P2.1, and R2: beside the error there is nothing.
func TestTextOfNoPlace(t *testing.T) {
	for _, l := range noPlaces() {
		if s, e := loc.Text(l); s != "" || e != api.ErrArg {
			t.Errorf("Text(%d): %q, %d", l, s, e)
		}
	}
}

// P2.1
func TestParse(t *testing.T) {
	for want, s := range texts() {
		if l, e := loc.Parse(s); l != want || e != api.OK {
			t.Errorf("Parse(%s): %d, %d; not %d", s, l, e, want)
		}
	}
}

// P2.1, and R2: beside the error there is nothing.
func TestParseOfNoPlace(t *testing.T) {
	for name, l := range map[string][]string{
		"nothing, or a letter alone":  {"", "r", "s", "R", "a"},
		"no letter":                   {"0", "7", "15", "23", "-1"},
		"beyond the last":             {"r8", "r9", "r10", "r15", "r23", "s16", "s17", "s19", "s20", "s23", "s24", "s99"},
		"a nought ahead":              {"r00", "r01", "r07", "s00", "s01", "s015", "s08", "s0015"},
		"a capital letter":            {"R1", "S1", "R0", "S15"},
		"another letter":              {"q1", "t1", "a0", "x7", "l8", "\x001", "rr1", "sr1", "rs", "ss0"},
		"a sign":                      {"r-0", "r-1", "r+0", "r+1", "s-1", "s+15", "-r1", "+s1", "r1-"},
		"a space":                     {" ", " r1", "r1 ", "r 1", "s1 5", "s15 ", "\tr1", "r1\n", "r1\r", "\nr1", "s1\t", "r\u00a01"},
		"a longer number":             {"r70", "r77", "r100", "s150", "s155", "s100", "s110", "s1500", "s160"},
		"another sort of number":      {"r1.0", "r0x1", "s0b1", "s1_5", "r1e0", "s1a", "sf", "s1,", "r1r1", "r1s1", "r1 r2"},
		"neighbours of the digits":    {"r/", "r:", "s1/", "s1:", "s0/", "s/5", "s:5", "r;"},
		"neighbours of the letters":   {"q0", "t0", "s\u00b9", "r\u00b2"},
		"other runes":                 {"r\u0661", "s\uff11", "s1\u0665", "\uff521", "\u0281" + "1", "r\u0967", "s1\u0301", "\ufeffr1", "r1\ufeff", "r1\u200b", "r\U0001d7cf", "\U000100721", "\u01721", "r\u0131", "s\U00010031"},
		"the rune for no rune":        {"\ufffd", "\ufffd1", "r\ufffd", "s1\ufffd"},
		"bytes that are no rune":      {"\xff", "\x80", "r\xff", "r1\xff", "\xffr1", "\xff1", "s1\x80", "s\xc2", "s\xc21", "\xc2r1", "r\xb1", "\xf31", "s\xb1\xb5", "s1\xed\xa0\x80", "r\xc0\xb1", "\xc1\xb21"},
		"a byte of 0":                 {"\x00", "r\x00", "r\x001", "r1\x00", "s1\x005"},
		"a number that wraps round":   {"r4294967296", "r4294967297", "s18446744073709551616", "s18446744073709551617", "r256", "s257", "r65537", "r9223372036854775808", "s9223372036854775807", "r340282366920938463463374607431768211457"},
		"a text that is long":         {"r" + strings.Repeat("0", 100000), "s" + strings.Repeat("1", 100000), strings.Repeat("r", 100000), strings.Repeat("s1", 50000), "r1" + strings.Repeat("\xff", 100000), "r0" + strings.Repeat(" ", 100000), "r" + strings.Repeat("0", 64) + "1"},
		"two places, or a part":       {"r1r", "s1s", "r1,r2", "r1\nr2", "s15s"},
		"quoted, or otherwise decked": {"\"r1\"", "'r1'", "(r1)", "[s1]", "%r1", "$r1", "#s1", "r#1"},
	} {
		for _, s := range l {
			if l, e := loc.Parse(s); l != 0 || e != api.ErrForm {
				t.Errorf("%s: Parse(%.40q): %d, %d", name, s, l, e)
			}
		}
	}
}

// P2.2
func TestParseOfText(t *testing.T) {
	for l := range api.Locs {
		s, e := loc.Text(l)
		if e != api.OK {
			t.Errorf("Text(%d): %d", l, e)
		}
		if back, e := loc.Parse(s); back != l || e != api.OK {
			t.Errorf("Parse(Text(%d)): %d, %d", l, back, e)
		}
	}
}

// shortTexts answers all texts of at most three bytes: every byte there is ahead and behind, and in between those that a place's text may hold or that lie beside them.
func shortTexts() []string {
	l := []string{""}
	for first := range 256 {
		l = append(l, string([]byte{byte(first)}))
		for last := range 256 {
			l = append(l, string([]byte{byte(first), byte(last)}))
			for _, mid := range []byte("rs0123456789/:+- R\x00\xff\xc2") {
				l = append(l, string([]byte{byte(first), mid, byte(last)}))
			}
		}
	}
	return l
}

// P2.2: of all short texts the places' alone are read, each once, and back comes the text.
func TestTextOfParse(t *testing.T) {
	var found [api.Locs]int
	for _, s := range shortTexts() {
		l, e := loc.Parse(s)
		if e != api.OK {
			if l != 0 || e != api.ErrForm {
				t.Errorf("Parse(%q): %d, %d", s, l, e)
			}
			continue
		}
		if !loc.Right(l) {
			t.Fatalf("Parse(%q): %d is no place", s, l)
		}
		found[l]++
		if back, e := loc.Text(l); back != s || e != api.OK {
			t.Errorf("Text(Parse(%q)): %q, %d", s, back, e)
		}
	}
	for l, n := range found {
		if n != 1 {
			t.Errorf("place %d has %d texts", l, n)
		}
	}
}

// P0 (R1, R4): no call panics, whatever it is given, and the same arguments have the same answer.
func TestSameAnswerAgain(t *testing.T) {
	for _, l := range append(noPlaces(), 0, 7, 8, 23) {
		s, e := loc.Text(l)
		if again, now := loc.Text(l); again != s || now != e {
			t.Errorf("Text(%d): first %q, %d, then %q, %d", l, s, e, again, now)
		}
		right, reg := loc.Right(l), loc.Reg(l)
		if loc.Right(l) != right || loc.Reg(l) != reg {
			t.Errorf("Right, Reg(%d): first %t, %t", l, right, reg)
		}
	}
	for _, s := range append(texts(), "", "r8", "s16", "\xff") {
		l, e := loc.Parse(s)
		if again, now := loc.Parse(s); again != l || now != e {
			t.Errorf("Parse(%q): first %d, %d, then %d, %d", s, l, e, again, now)
		}
	}
}
