package nat

// divisor answers the greatest natural that divides a and b.
func divisor(a, b limbs) limbs {
	for len(b) > 0 {
		if s := foresee(a, b); s.b != 0 {
			a, b = combine(a, b, s.a, s.b), combine(a, b, s.c, s.d)
			continue
		}
		_, rest := divide(a, b)
		a, b = b, rest
	}
	return a
}

// steps are many divisions at once: behind them the first natural is a times the first and b times the second, the second one c times the first and d times the second.
type steps struct{ a, b, c, d int }

// foresee answers the divisions that the highest two limbs of a and b tell for sure; b of the answer is 0 if that is none.
func foresee(a, b limbs) steps {
	x, y := highest(a, b)
	s := steps{a: 1, d: 1}
	for y+s.c != 0 && y+s.d != 0 {
		// The naturals' own quotient lies between these two, whatever the lower limbs are.
		quotient := (x + s.a) / (y + s.c)
		if quotient != (x+s.b)/(y+s.d) {
			break
		}
		s = steps{s.c, s.d, s.a - quotient*s.c, s.b - quotient*s.d}
		x, y = y, x-quotient*y
	}
	return s
}

// highest answers two limbs of a and of b, from where the longer one has its highest ones.
func highest(a, b limbs) (int, int) {
	top := max(len(a), len(b)) - 1
	return int(at(a, top)*base + at(a, top-1)), int(at(b, top)*base + at(b, top-1))
}

// combine answers m times a and n times b together, which is not below 0; m and n are below the base and have not the same sign.
func combine(a, b limbs, m, n int) limbs {
	out := make(limbs, max(len(a), len(b)))
	carry := 0
	for i := range out {
		all := m*int(at(a, i)) + n*int(at(b, i)) + carry
		low := all % base
		carry = all / base
		if low < 0 {
			low += base
			carry--
		}
		out[i] = uint64(low)
	}
	return trim(out)
}
