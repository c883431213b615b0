package integer

import "eliminant/api"

// Texts are written and read nine digits at a time: as many fit into a word.
const (
	chunkDigits = 9
	chunkBase   = 1000000000
)

// Text returns the decimal digits.
func Text(a api.Int) string {
	rest := clone(words(a))
	if len(rest) == 0 {
		return "0"
	}
	var out []byte // from the end of the text on
	for len(rest) > 0 {
		digits := digitsOf(divideByWord(rest, chunkBase))
		out = append(out, digits[:]...)
		rest = trim(rest)
	}
	for out[len(out)-1] == '0' {
		out = out[:len(out)-1]
	}
	if a.Neg {
		out = append(out, '-')
	}
	for i := range len(out) / 2 {
		k := len(out) - 1 - i
		out[i], out[k] = out[k], out[i]
	}
	return string(out)
}

// Parse reads what Text writes.
func Parse(s string) (api.Int, api.Errno) {
	if len(s) > api.MaxText {
		return api.Int{}, api.ErrBig
	}
	neg := len(s) > 0 && s[0] == '-'
	digits := s
	if neg {
		digits = s[1:]
	}
	if !isNumeral(digits) || s == "-0" {
		return api.Int{}, api.ErrForm
	}
	return signed(neg, read(digits)), api.OK
}

// digitsOf returns the nine digits of n, the last one first.
func digitsOf(n uint32) [chunkDigits]byte {
	var out [chunkDigits]byte
	for i := range out {
		out[i] = byte('0' + n%10)
		n /= 10
	}
	return out
}

// isNumeral reports whether s consists of digits, at least one, and has no 0 at the start unless it is "0".
func isNumeral(s string) bool {
	for i := range len(s) {
		if s[i] < '0' || s[i] > '9' {
			return false
		}
	}
	return s == "0" || len(s) > 0 && s[0] != '0'
}

// read returns the number with the digits s.
func read(s string) []uint32 {
	var out []uint32
	chunk := uint32(0)
	for i := range len(s) {
		chunk = 10*chunk + uint32(s[i]-'0')
		if (len(s)-1-i)%chunkDigits == 0 {
			out = plus(times(out, []uint32{chunkBase}), wordsOf(uint64(chunk)))
			chunk = 0
		}
	}
	return out
}
