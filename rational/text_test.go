package rational_test

import (
	"strings"
	"testing"

	"eliminant/api"
	"eliminant/rational"
)

// P2.1, B9; P2.6.
func TestTexts(t *testing.T) {
	list := samples(t, source(), 500)
	for n := int64(-12); n <= 12; n++ {
		for d := int64(1); d <= 12; d++ {
			list = append(list, fraction(t, n, d))
		}
	}
	seen := map[string]api.Rat{}
	for _, a := range list {
		s := rational.Text(a)
		if want := bigRat(a).RatString(); s != want {
			t.Errorf("Text: %q, want %q", s, want)
		}
		if b, e := rational.Parse(s); !same(a, b) || e != api.OK {
			t.Errorf("Parse(%q): %v, %v", s, b, e)
		}
		if b, ok := seen[s]; ok && !same(a, b) {
			t.Errorf("%v and %v have the text %q", a, b, s)
		}
		seen[s] = a
	}
}

// P2.1, B9: no number has these texts.
func TestTextsThatAreWrong(t *testing.T) {
	for _, s := range []string{
		"", "/", "//", "-", "-/", "/1", "/2", "1/", "-1/", "2/4", "3/1", "-3/1", "0/1", "0/2", "0/0", "1/0", "-1/0", "1/1", "6/3", "5/5", "-2/4",
		"-0", "-0/2", "1/-2", "-1/-2", "1/+2", "+1", "+1/2", "01", "01/2", "1/02", "007/2", "1/2/3", "1/2/", "/1/2", "1//2", "1/2 ", " 1/2", "1 /2", "1/ 2", " 1", "1\n",
		"1.5", "0.5", "1e2", "x", "x/2", "1/x", "1:2", "1\\2", "\x00", "1/2\x00", "\u0661/2", "1\u20442",
		strings.Repeat("0", 4000), strings.Repeat("/", 4000), "2/" + strings.Repeat("8", 3998), "1/" + strings.Repeat("0", 3998), strings.Repeat("7", 3998) + "/1", strings.Repeat("7", 3998) + "/7",
	} {
		if a, e := rational.Parse(s); !isNothing(a) || e != api.ErrForm {
			t.Errorf("Parse(%q): %v, %v", s, a, e)
		}
	}
}

// P2.1, B9: the limit of 4000 bytes counts for the whole text, and is checked before the form.
func TestTextsAroundTheLimit(t *testing.T) {
	nines, ones := strings.Repeat("9", 4000), strings.Repeat("1", 4000)
	for _, s := range []string{
		nines, "-" + nines[:3999], nines[:3998] + "/2", "-" + nines[:3997] + "/2", "1/" + nines[:3998], "-1/" + nines[:3997], "1" + nines[:1998] + "/2" + strings.Repeat("0", 1999),
	} {
		if len(s) != 4000 {
			t.Fatalf("the test has a text of %d bytes", len(s))
		}
		if a, e := rational.Parse(s); !same(a, read(t, s)) || e != api.OK || rational.Text(a) != s {
			t.Errorf("a text of 4000 bytes: %v", e)
		}
	}
	for _, s := range []string{
		nines + "9", "-" + nines, nines[:3999] + "/2", "1/" + nines[:3999], ones[:2000] + "/" + nines[:2000], strings.Repeat("x", 4001), strings.Repeat("/", 4001), "2/4" + strings.Repeat(" ", 3998), strings.Repeat("0", 100000),
	} {
		if a, e := rational.Parse(s); !isNothing(a) || e != api.ErrBig {
			t.Errorf("a text of %d bytes: %v, %v", len(s), a, e)
		}
	}
	// Text has no limit.
	a, b := read(t, nines), read(t, "1/2"+nines[:3997])
	if s := rational.Text(rational.Mul(a, b)); s != bigRat(a).Mul(bigRat(a), bigRat(b)).RatString() || len(s) < 7000 {
		t.Errorf("a text of %d bytes", len(s))
	}
}

// The examples of the chapter for B9.
func TestExamplesOfTexts(t *testing.T) {
	if a, e := rational.Parse("-3/2"); !same(a, fraction(t, -3, 2)) || e != api.OK {
		t.Errorf("Parse(\"-3/2\"): %v, %v", a, e)
	}
	for _, s := range []string{"2/4", "3/1"} {
		if a, e := rational.Parse(s); !isNothing(a) || e != api.ErrForm {
			t.Errorf("Parse(%q): %v, %v", s, a, e)
		}
	}
}
