package integer_test

import (
	"math/big"
	"strings"
	"testing"

	"eliminant/api"
	"eliminant/integer"
)

// P1.1, A9; P1.7.
func TestTexts(t *testing.T) {
	list := samples(source(), 300)
	// Nine digits at a time: zeros at the start of a group, and as many digits as several groups have.
	for n := range 40 {
		ten := new(big.Int).Exp(big.NewInt(10), big.NewInt(int64(n)), nil)
		for d := int64(-1); d <= 1; d++ {
			b := new(big.Int).Add(ten, big.NewInt(d))
			list = append(list, fromBig(b), fromBig(new(big.Int).Neg(b)))
		}
	}
	seen := map[string]api.Int{}
	for _, a := range list {
		s := integer.Text(a)
		if s != toBig(a).String() {
			t.Errorf("Text(%v): %q", toBig(a), s)
		}
		if b, e := integer.Parse(s); e != api.OK || !same(a, b) {
			t.Errorf("Parse(%q): %v, %v", s, b, e)
		}
		if b, ok := seen[s]; ok && !same(a, b) {
			t.Errorf("%v and %v have the same text", a, b)
		}
		seen[s] = a
	}
}

// P1.1, A9.
func TestTextsThatAreWrong(t *testing.T) {
	for _, s := range []string{
		"", "-", "-0", "--0", "00", "01", "007", "-07", "+1", "+0", " 1", "1 ", "1\n", "\t1", "1_000", "1,000", "1.0", "0x1", "x", "--1", "1-", "1-1", "-+1", "1e3",
		"1/2", "\x00", "1\x00", "\xff", "\u0661", "\uff11", "123456789:", "12345678/9", strings.Repeat("0", 4000), strings.Repeat("9", 3999) + "x", "-" + strings.Repeat("0", 3999),
	} {
		if a, e := integer.Parse(s); e != api.ErrForm || !same(a, api.Int{}) {
			t.Errorf("Parse(%q): %v, %v", s, a, e)
		}
	}
}

// P1.1, A9: texts around 4000 bytes.
func TestTextsAroundTheLimit(t *testing.T) {
	for _, s := range []string{
		strings.Repeat("7", 4000), strings.Repeat("9", 3999), "-" + strings.Repeat("8", 3999), "1" + strings.Repeat("0", 3999), "-1" + strings.Repeat("0", 3998),
	} {
		a, e := integer.Parse(s)
		if e != api.OK || !same(a, decimal(t, s)) || integer.Text(a) != s {
			t.Errorf("a text of %d bytes: %v", len(s), e)
		}
	}
	// The length is checked before the form.
	for _, s := range []string{
		strings.Repeat("7", 4001), "-" + strings.Repeat("7", 4000), strings.Repeat("0", 4001), strings.Repeat("x", 4001), "-0" + strings.Repeat(" ", 100000),
	} {
		if a, e := integer.Parse(s); e != api.ErrBig || !same(a, api.Int{}) {
			t.Errorf("a text of %d bytes: %v, %v", len(s), a, e)
		}
	}
	// Text has no limit.
	p, _ := integer.Pow(integer.Of(-10), 4095)
	if s := integer.Text(p); s != "-1"+strings.Repeat("0", 4095) {
		t.Errorf("Text of a number with 4096 digits: %d bytes", len(s))
	}
}

// The examples of the chapter for A7 to A9.
func TestExamplesOfTexts(t *testing.T) {
	if n := integer.Bits(integer.Of(-8)); n != 4 {
		t.Errorf("Bits(-8): %d", n)
	}
	for _, s := range []string{"-0", "007"} {
		if _, e := integer.Parse(s); e != api.ErrForm {
			t.Errorf("Parse(%q): %v", s, e)
		}
	}
}
