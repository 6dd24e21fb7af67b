package nat

// divide answers the quotient of a and b, cut off, and what is left. b is not 0.
func divide(a, b limbs) (limbs, limbs) {
	if len(a) < len(b) {
		return nil, a
	}
	// A divisor whose highest limb is half the base at least keeps an estimate by that limb from being more than two too many.
	scale := base / (b[len(b)-1] + 1)
	left, by := scaled(a, scale), scaled(b, scale)
	quotient := make(limbs, len(a)-len(b)+1)
	for i := range behind(quotient) {
		quotient[i] = takeOut(left[i:i+len(by)], by)
	}
	return trim(quotient), unscaled(left, scale)
}

// scaled answers so many times a, with a limb more, be that 0.
func scaled(a limbs, times uint64) limbs {
	out := make(limbs, len(a)+1)
	out[len(a)] = addTimes(out[:len(a)], a, times)
	return out
}

// unscaled answers that of which a is so many times.
func unscaled(a limbs, times uint64) limbs {
	out := make(limbs, len(a))
	rest := uint64(0)
	for i, limb := range behind(a) {
		rest = rest*base + limb
		out[i] = rest / times
		rest %= times
	}
	return trim(out)
}

// takeOut takes by out of left as often as that goes, and answers how often. Both are of one length, by's highest limb is 0, and it goes less than base times.
func takeOut(left, by limbs) uint64 {
	top := len(by) - 1
	times := (left[top]*base + left[top-1]) / by[top-1]
	borrowed := takeTimes(left, by, times)
putRight:
	if borrowed > 0 {
		times--
		borrowed -= addTimes(left, by, 1)
		goto putRight
	}
	return times
}

// takeTimes takes so many times by out of left, which is as long, and answers what is borrowed beyond it.
func takeTimes(left, by limbs, times uint64) uint64 {
	borrow := uint64(0)
	for i, limb := range by {
		less := limb*times + borrow
		borrow = less / base
		less %= base
		if left[i] < less {
			left[i] += base
			borrow++
		}
		left[i] -= less
	}
	return borrow
}
