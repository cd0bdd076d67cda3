// Package num is layer 1: see shared/doc/01-num.md.
//
// Numbers are texts of digits, the greatest place first, so that they may be of any length; 0 is no bytes.
package num

import (
	"cmp"
	"strconv"
	"strings"

	"florin/api"
)

const (
	maxIntDigits = 18 // all numbers of so many digits fit an int
	maxZeros     = 2 * api.MaxPlace
)

// Is tells whether a text is digits.
func Is(s string) bool {
	for i := range len(s) {
		if s[i] < '0' || s[i] > '9' {
			return false
		}
	}
	return true
}

// Trim is digits without noughts ahead.
func Trim(s string) string {
	if !Is(s) {
		return ""
	}
	return strings.TrimLeft(s, "0")
}

// Cmp compares two numbers: -1, 0 or 1.
func Cmp(a, b string) int {
	if !allDigits(a, b) {
		return 0
	}
	a, b = Trim(a), Trim(b)
	if len(a) != len(b) {
		return cmp.Compare(len(a), len(b))
	}
	// Of as many digits the order of the texts is that of the numbers.
	return cmp.Compare(a, b)
}

// Add is the sum of two numbers.
func Add(a, b string) string {
	if !allDigits(a, b) {
		return ""
	}
	size := max(len(a), len(b)) + 1 // one more place, for what is carried over
	sum := make([]byte, size)
	carry := 0
	for place := range size {
		d := digitAt(a, place) + digitAt(b, place) + carry
		sum[size-1-place] = digitByte(d % 10)
		carry = d / 10
	}
	return Trim(string(sum))
}

// Sub is what is left of a number without another one; false: that one is greater.
func Sub(a, b string) (string, bool) {
	if !allDigits(a, b) || Cmp(a, b) < 0 {
		return "", false
	}
	size := len(a) // b may be longer, but only by noughts ahead
	rest := make([]byte, size)
	borrow := 0
	for place := range size {
		d := digitAt(a, place) - digitAt(b, place) - borrow
		borrow = 0
		if d < 0 {
			d += 10
			borrow = 1
		}
		rest[size-1-place] = digitByte(d)
	}
	return Trim(string(rest)), true
}

// Times is a number so many times.
func Times(a string, m int) string {
	if !Is(a) || m < 0 || m > api.MaxSmall {
		return ""
	}
	size := len(a)
	product := make([]byte, size)
	carry := 0 // stays below m, so that no step leaves an int's bounds
	for place := range size {
		d := digitAt(a, place)*m + carry
		product[size-1-place] = digitByte(d % 10)
		carry = d / 10
	}
	return Trim(Of(carry) + string(product))
}

// Div is how often a number goes into another one, and what is left.
func Div(a string, m int) (string, int) {
	if !Is(a) || m < 1 || m > api.MaxSmall {
		return "", 0
	}
	quotient := make([]byte, len(a))
	rest := 0 // stays below m, so that each step brings one digit
	for i := range len(a) {
		d := rest*10 + digitValue(a[i])
		quotient[i] = digitByte(d / m)
		rest = d % m
	}
	return Trim(string(quotient)), rest
}

// Int is a number as an int; false: it has more than eighteen digits.
func Int(a string) (int, bool) {
	digits := Trim(a)
	if !Is(a) || len(digits) > maxIntDigits {
		return 0, false
	}
	n := 0
	for i := range len(digits) {
		n = n*10 + digitValue(digits[i])
	}
	return n, true
}

// Of is an int's digits; none of 0, and below 0.
func Of(n int) string {
	if n <= 0 {
		return ""
	}
	return strconv.Itoa(n)
}

// Zeros is so many noughts.
func Zeros(n int) string {
	return strings.Repeat("0", min(max(n, 0), maxZeros))
}

// allDigits tells whether each of some texts is digits.
func allDigits(texts ...string) bool {
	for _, s := range texts {
		if !Is(s) {
			return false
		}
	}
	return true
}

// digitAt is the digit at a place, counted from the end; ahead of the first digit all are 0.
func digitAt(digits string, place int) int {
	if place >= len(digits) {
		return 0
	}
	return digitValue(digits[len(digits)-1-place])
}

func digitValue(b byte) int { return int(b - '0') }

func digitByte(d int) byte { return byte('0' + d) }
