package integer

// The functions of this file, and those of divide.go, work on absolute values: slices of words, the least
// significant word first, whose last word is not 0. Their results are new memory unless they say otherwise.

const (
	wordBits = 32
	wordMask = 1<<wordBits - 1
)

// trim drops the words 0 at the end; the result shares the memory of a.
func trim(a []uint32) []uint32 {
	for len(a) > 0 && a[len(a)-1] == 0 {
		a = a[:len(a)-1]
	}
	return a
}

// clone returns a copy of a.
func clone(a []uint32) []uint32 {
	out := make([]uint32, len(a))
	copy(out, a)
	return out
}

// number returns the value of at most two words.
func number(a []uint32) uint64 {
	return uint64(word(a, 0)) | uint64(word(a, 1))<<wordBits
}

// wordsOf returns the words of n.
func wordsOf(n uint64) []uint32 {
	return trim([]uint32{uint32(n), uint32(n >> wordBits)})
}

// word returns the word with the index i, which is 0 behind the last one.
func word(a []uint32, i int) uint32 {
	if i < len(a) {
		return a[i]
	}
	return 0
}

// compare returns -1, 0 or 1.
func compare(a, b []uint32) int {
	if len(a) != len(b) {
		return min(max(len(a)-len(b), -1), 1)
	}
	for i := range len(a) {
		x, y := a[len(a)-1-i], b[len(a)-1-i]
		if x < y {
			return -1
		}
		if x > y {
			return 1
		}
	}
	return 0
}

// bitLength returns the least n with a < 2^n.
func bitLength(a []uint32) int {
	if len(a) == 0 {
		return 0
	}
	return (len(a)-1)*wordBits + bitsOfWord(a[len(a)-1])
}

// bitsOfWord returns the least n with w < 2^n.
func bitsOfWord(w uint32) int {
	n := 0
	for step := wordBits / 2; step > 0; step /= 2 {
		if w>>step != 0 {
			w >>= step
			n += step
		}
	}
	return n + int(w)
}

// plus returns a + b.
func plus(a, b []uint32) []uint32 {
	out := make([]uint32, max(len(a), len(b))+1)
	carry := uint64(0)
	for i := range out {
		carry += uint64(word(a, i)) + uint64(word(b, i))
		out[i] = uint32(carry)
		carry >>= wordBits
	}
	return trim(out)
}

// minus returns a - b, for a >= b.
func minus(a, b []uint32) []uint32 {
	out := make([]uint32, len(a))
	borrow := uint64(0)
	for i := range out {
		d := uint64(a[i]) - uint64(word(b, i)) - borrow
		out[i] = uint32(d)
		borrow = d >> 63
	}
	return trim(out)
}

// times returns a times b.
func times(a, b []uint32) []uint32 {
	out := make([]uint32, len(a)+len(b))
	for i, w := range b {
		out[i+len(a)] = addTimes(out[i:i+len(a)], a, w)
	}
	return trim(out)
}

// addTimes adds a times w to as many words of out, in place, and returns the carry.
func addTimes(out, a []uint32, w uint32) uint32 {
	carry := uint64(0)
	for i := range len(a) {
		carry += uint64(a[i])*uint64(w) + uint64(out[i])
		out[i] = uint32(carry)
		carry >>= wordBits
	}
	return uint32(carry)
}

// shiftLeft returns a times 2^n.
func shiftLeft(a []uint32, n int) []uint32 {
	skip, by := n/wordBits, n%wordBits
	out := make([]uint32, len(a)+skip+1)
	for i, w := range a {
		wide := uint64(w) << by
		out[i+skip] |= uint32(wide)
		out[i+skip+1] = uint32(wide >> wordBits)
	}
	return trim(out)
}

// shiftRight returns a divided by 2^n, rounded down.
func shiftRight(a []uint32, n int) []uint32 {
	skip, by := n/wordBits, n%wordBits
	if skip >= len(a) {
		return nil
	}
	out := make([]uint32, len(a)-skip)
	for i := range out {
		wide := uint64(a[i+skip]) | uint64(word(a, i+skip+1))<<wordBits
		out[i] = uint32(wide >> by)
	}
	return trim(out)
}
