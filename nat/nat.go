// Package nat is layer 1: see shared/doc/01-nat.md.
package nat

import (
	"strconv"
	"strings"
)

// May tells whether s is a natural.
func May(s string) bool {
	if s == "" || s[0] == '0' && len(s) > 1 {
		return false
	}
	for i := range len(s) {
		if s[i] < '0' || s[i] > '9' {
			return false
		}
	}
	return true
}

// Of answers n's digits, and nothing of n below 0.
func Of(n int) string {
	if n < 0 {
		return ""
	}
	return strconv.Itoa(n)
}

// Small answers the number that s is, and whether an int holds it.
func Small(s string) (int, bool) {
	if !May(s) {
		return 0, false
	}
	n, err := strconv.Atoi(s)
	if err != nil {
		return 0, false
	}
	return n, true
}

// Cmp answers -1, 0 or 1, as a is below b, the same, or above.
func Cmp(a, b string) int {
	if !May(a) || !May(b) {
		return 0
	}
	// Without a needless 0 ahead, the longer natural is the greater one.
	if len(a) < len(b) {
		return -1
	}
	if len(a) > len(b) {
		return 1
	}
	return strings.Compare(a, b)
}

// Add answers the sum.
func Add(a, b string) string {
	if !May(a) || !May(b) {
		return ""
	}
	return digits(sum(read(a), read(b)))
}

// Sub answers the difference, and whether there is one: b is not above a.
func Sub(a, b string) (string, bool) {
	if !May(a) || !May(b) || Cmp(a, b) < 0 {
		return "", false
	}
	return digits(difference(read(a), read(b))), true
}

// Mul answers the product.
func Mul(a, b string) string {
	if !May(a) || !May(b) {
		return ""
	}
	return digits(product(read(a), read(b)))
}

// Div answers the quotient, cut off, what is left, and whether there are these: b is not 0.
func Div(a, b string) (string, string, bool) {
	if !May(a) || !May(b) || b == "0" {
		return "", "", false
	}
	quotient, rest := divide(read(a), read(b))
	return digits(quotient), digits(rest), true
}

// Gcd answers the greatest natural that divides both.
func Gcd(a, b string) string {
	if !May(a) || !May(b) {
		return ""
	}
	return digits(divisor(read(a), read(b)))
}
