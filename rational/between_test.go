package rational_test

import (
	"math/big"
	"strings"
	"testing"

	"eliminant/api"
	"eliminant/integer"
	"eliminant/rational"
)

// P2.1, B7, with the examples.
func TestBetween(t *testing.T) {
	for _, c := range [][3]string{
		{"1/3", "1/2", "1/2"}, {"7/5", "10/7", "7/5"}, {"-5/2", "-1/3", "-1"},
		{"0", "0", "0"}, {"0", "5", "0"}, {"-5", "0", "0"}, {"-1/3", "1/7", "0"}, {"-1/1000", "1000", "0"},
		{"1", "9", "1"}, {"1/2", "9", "1"}, {"3", "9/2", "3"}, {"5/2", "9/2", "3"}, {"5/2", "3", "3"}, {"-9/2", "-5/2", "-3"}, {"-9", "-3", "-3"}, {"-3", "-5/2", "-3"},
		{"22/7", "22/7", "22/7"}, {"-22/7", "-22/7", "-22/7"}, {"8", "8", "8"}, {"-8", "-8", "-8"},
		{"2/5", "3/5", "1/2"}, {"1/1000", "1/999", "1/999"}, {"998/1000", "999/1000", "499/500"}, {"-3/5", "-2/5", "-1/2"}, {"17/5", "18/5", "7/2"},
		{"314159/100000", "3927/1250", "355/113"}, {"-3927/1250", "-314159/100000", "-355/113"},
		{"1/340282366920938463463374607431768211456", "1/18446744073709551616", "1/18446744073709551616"},
	} {
		x, e := rational.Between(read(t, c[0]), read(t, c[1]))
		if !same(x, read(t, c[2])) || e != api.OK {
			t.Errorf("Between(%s, %s): %v, %v", c[0], c[1], x, e)
		}
	}
	for _, c := range [][2]string{
		{"1/2", "1/3"}, {"1", "0"}, {"0", "-1"}, {"1", "-1"}, {"-1/3", "-1/2"}, {"1000000000000000000001/1000000000000000000000", "1"},
	} {
		if x, e := rational.Between(read(t, c[0]), read(t, c[1])); !isNothing(x) || e != api.ErrArg {
			t.Errorf("Between(%s, %s): %v, %v", c[0], c[1], x, e)
		}
	}
}

// simplestOf searches as the definition says: denominators from 1 on, and for each one numerators from 0 on.
func simplestOf(a, b *big.Rat) *big.Rat {
	for d := int64(1); ; d++ {
		for n := int64(0); n <= 10*d; n++ {
			for _, x := range []*big.Rat{big.NewRat(n, d), big.NewRat(-n, d)} {
				if a.Cmp(x) <= 0 && x.Cmp(b) <= 0 {
					return x
				}
			}
		}
	}
}

// P2.5: all intervals with short ends, against the definition.
func TestBetweenShortEnds(t *testing.T) {
	var ends []*big.Rat
	for d := int64(1); d <= 7; d++ {
		for n := -3 * d; n <= 3*d; n++ {
			if x := big.NewRat(n, d); x.Denom().Int64() == d {
				ends = append(ends, x)
			}
		}
	}
	for _, a := range ends {
		for _, b := range ends {
			x, e := rational.Between(ratOf(t, a), ratOf(t, b))
			if a.Cmp(b) > 0 {
				if !isNothing(x) || e != api.ErrArg {
					t.Errorf("Between(%v, %v): %v, %v", a, b, x, e)
				}
				continue
			}
			if e != api.OK {
				t.Errorf("Between(%v, %v): %v", a, b, e)
			}
			expect(t, "Between", x, simplestOf(a, b))
		}
	}
}

// checkSimplest checks the result for 0 < a <= b. For a fraction p/q that is not whole there are l = p1/q1 < p/q and
// r = p2/q2 > p/q with q1 + q2 = q and p q1 - q p1 = 1 = q p2 - p q2. All other numbers between l and r have
// denominators greater than q: so p/q is the simplest one if l and r are outside.
func checkSimplest(t *testing.T, a, b api.Rat) {
	t.Helper()
	got, e := rational.Between(a, b)
	if e != api.OK || !rational.Valid(got) {
		t.Fatalf("Between(%v): %v, %v", texts([]api.Rat{a, b}), got, e)
	}
	low, x, high := bigRat(a), bigRat(got), bigRat(b)
	if x.Cmp(low) < 0 || x.Cmp(high) > 0 {
		t.Fatalf("Between(%v): %v is outside", texts([]api.Rat{a, b}), x)
	}
	one := big.NewInt(1)
	if x.IsInt() {
		if new(big.Rat).Sub(x, big.NewRat(1, 1)).Cmp(low) >= 0 {
			t.Fatalf("Between(%v): %v is not the least integer", texts([]api.Rat{a, b}), x)
		}
		return
	}
	p, q := x.Num(), x.Denom()
	q1 := new(big.Int).ModInverse(p, q)
	p1 := new(big.Int).Sub(new(big.Int).Mul(p, q1), one)
	p1.Quo(p1, q)
	left := new(big.Rat).SetFrac(p1, q1)
	right := new(big.Rat).SetFrac(new(big.Int).Sub(p, p1), new(big.Int).Sub(q, q1))
	if left.Cmp(low) >= 0 || right.Cmp(high) <= 0 {
		t.Fatalf("Between(%v): %v is not the simplest number", texts([]api.Rat{a, b}), x)
	}
}

// checkBothSigns checks the interval from a to b, or from b to a, and the opposite one.
func checkBothSigns(t *testing.T, a, b api.Rat) {
	t.Helper()
	if rational.Cmp(a, b) > 0 {
		a, b = b, a
	}
	if rational.Sign(a) <= 0 && rational.Sign(b) >= 0 {
		x, e := rational.Between(a, b)
		expect(t, "Between with 0", x, new(big.Rat))
		if e != api.OK {
			t.Errorf("Between with 0: %v", e)
		}
		return
	}
	if rational.Sign(a) < 0 {
		a, b = rational.Neg(b), rational.Neg(a)
	}
	checkSimplest(t, a, b)
	x, _ := rational.Between(a, b)
	y, e := rational.Between(rational.Neg(b), rational.Neg(a))
	if !same(y, rational.Neg(x)) || e != api.OK {
		t.Errorf("Between of the numbers opposite to %v: %v, %v", texts([]api.Rat{a, b}), y, e)
	}
}

// P2.5: long ends, also such that are close to each other.
func TestBetweenLongEnds(t *testing.T) {
	r := source()
	for range 2000 {
		a := random(t, r, 200)
		checkBothSigns(t, a, random(t, r, 200))
		near := fraction(t, 1, 1+r.Int64N(1<<62))
		for range r.IntN(4) {
			near = rational.Mul(near, near)
		}
		checkBothSigns(t, a, rational.Add(a, near))
		checkBothSigns(t, a, rational.Mul(a, rational.Add(near, rational.Whole(1))))
		checkBothSigns(t, a, a)
	}
}

// P2.5: quotients of Fibonacci numbers, for which the search takes most steps: the longest ones have nearly as many
// bits as the texts may have.
func TestBetweenManySteps(t *testing.T) {
	one := integer.Of(1)
	a, b := one, one
	for i := range 9000 {
		a, b = b, integer.Add(a, b)
		if i%1000 != 999 && i > 20 {
			continue
		}
		c := integer.Add(a, b)
		first, second := must(t)(rational.New(b, a)), must(t)(rational.New(c, b))
		checkBothSigns(t, first, second)
		checkBothSigns(t, must(t)(rational.New(a, b)), must(t)(rational.New(b, c)))
	}
}

// P2.5: ends that differ only in their last digits.
func TestBetweenLongestTexts(t *testing.T) {
	long := strings.Repeat("7", 1990)
	a, b := read(t, "1"+long+"/2"+long), read(t, "1"+long+"1/2"+long+"1")
	checkBothSigns(t, a, b)
}
