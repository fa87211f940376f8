// Package num is layer 1: numbers in digits.
package num

import "inquest/api"

// mostDigits is how many digits api.MaxNum has.
const mostDigits = 10

// Show is a number in digits.
func Show(n int) (string, api.Errno) {
	if n < 0 || n > api.MaxNum {
		return "", api.ErrArg
	}
	var digits [mostDigits]byte
	first := mostDigits
	for range mostDigits {
		first--
		digits[first] = byte('0' + n%10)
		n /= 10
		// Asked behind the cut, so that 0 has its one digit.
		if n == 0 {
			break
		}
	}
	return string(digits[first:]), api.OK
}

// Take is the number at a place of a text, and the place behind it.
func Take(s string, at int) (int, int, api.Errno) {
	if at < 0 || at > len(s) {
		return 0, 0, api.ErrArg
	}
	digits := leadingDigits(s[at:])
	if digits == "" || digits[0] == '0' && len(digits) > 1 {
		return 0, 0, api.ErrForm
	}
	n, fits := value(digits)
	if !fits {
		return 0, 0, api.ErrNum
	}
	return n, at + len(digits), api.OK
}

// Whole is the number that a whole text is.
func Whole(s string) (int, api.Errno) {
	n, end, e := Take(s, 0)
	if e != api.OK {
		return 0, e
	}
	if end != len(s) {
		return 0, api.ErrForm
	}
	return n, api.OK
}

// leadingDigits is the part of a text ahead of its first byte that is no digit.
func leadingDigits(s string) string {
	for i := range len(s) {
		if s[i] < '0' || s[i] > '9' {
			return s[:i]
		}
	}
	return s
}

// value is what digits mean, and whether that is at most api.MaxNum.
func value(digits string) (int, bool) {
	n := 0
	for i := range len(digits) {
		d := int(digits[i] - '0')
		// Asked ahead of the sum, so that digits of any length, and an int of 32 bits, don't wrap round.
		if n > (api.MaxNum-d)/10 {
			return 0, false
		}
		n = n*10 + d
	}
	return n, true
}
