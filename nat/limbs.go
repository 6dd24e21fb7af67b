package nat

import (
	"iter"
	"strings"
)

// A limb holds so many digits that a product of two limbs, with carries, fits into 64 bits.
const (
	places = 9
	base   = 1_000_000_000
)

// limbs are a natural's limbs, the lowest one first, without a 0 at the end: 0 has none.
type limbs []uint64

// behind goes through limbs from behind, the highest one first.
func behind(a limbs) iter.Seq2[int, uint64] {
	return func(yield func(int, uint64) bool) {
		for i := len(a) - 1; i >= 0; i-- {
			if !yield(i, a[i]) {
				return
			}
		}
	}
}

// trim takes away what is 0 at the end.
func trim(a limbs) limbs {
	for i, limb := range behind(a) {
		if limb != 0 {
			return a[:i+1]
		}
	}
	return nil
}

// read answers the limbs of a natural.
func read(s string) limbs {
	a := make(limbs, (len(s)+places-1)/places)
	for i := range a {
		end := len(s) - i*places
		for _, digit := range []byte(s[max(0, end-places):end]) {
			a[i] = a[i]*10 + uint64(digit-'0')
		}
	}
	return trim(a)
}

// digits answers the natural whose limbs they are.
func digits(a limbs) string {
	if len(a) == 0 {
		return "0"
	}
	text := make([]byte, len(a)*places)
	for i, limb := range a {
		end := len(text) - i*places
		for place := range places {
			text[end-1-place] = byte('0' + limb%10)
			limb /= 10
		}
	}
	return strings.TrimLeft(string(text), "0")
}

// at answers the limb there, which is 0 beyond the end.
func at(a limbs, i int) uint64 {
	if i < 0 || i >= len(a) {
		return 0
	}
	return a[i]
}

// sum answers a and b together.
func sum(a, b limbs) limbs {
	out := make(limbs, max(len(a), len(b))+1)
	carry := uint64(0)
	for i := range out {
		both := at(a, i) + at(b, i) + carry
		out[i] = both % base
		carry = both / base
	}
	return trim(out)
}

// difference answers a less b, which is not above a.
func difference(a, b limbs) limbs {
	out := make(limbs, len(a))
	borrow := uint64(0)
	for i := range out {
		left := a[i] + base - at(b, i) - borrow
		out[i] = left % base
		borrow = 1 - left/base
	}
	return trim(out)
}

// product answers a times b.
func product(a, b limbs) limbs {
	out := make(limbs, len(a)+len(b))
	for i, limb := range a {
		out[i+len(b)] = addTimes(out[i:i+len(b)], b, limb)
	}
	return trim(out)
}

// addTimes adds so many times b to out, which is as long, and answers what is carried beyond it.
func addTimes(out, b limbs, times uint64) uint64 {
	carry := uint64(0)
	for i, limb := range b {
		all := out[i] + limb*times + carry
		out[i] = all % base
		carry = all / base
	}
	return carry
}
