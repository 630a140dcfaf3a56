package structure

import (
	"math/bits"
	"sort"

	"spokeshave/api"
)

// added returns the sum of fractions with one positive denominator, in lowest terms.
func added(denominator int, numerators ...int) api.Frac {
	n := sum(numerators...)
	divisor := gcd(abs(n), denominator)
	return api.Frac{Num: n / divisor, Den: denominator / divisor}
}

func sum(terms ...int) int {
	s := 0
	for _, term := range terms {
		s += term
	}
	return s
}

// gcd returns the greatest common divisor of two numbers that are not negative.
func gcd(a, b int) int {
	for b != 0 {
		a, b = b, a%b
	}
	return a
}

func abs(n int) int {
	if n < 0 {
		return -n
	}
	return n
}

// roundedUp returns a quotient of two numbers that are not negative.
func roundedUp(a, b int) int {
	return (a + b - 1) / b
}

// productAtMost reports whether a * b is at most c * d, for numbers that are not negative; unlike other products of this chapter, these may be beyond 2^63.
func productAtMost(a, b, c, d int) bool {
	high, low := bits.Mul64(uint64(a), uint64(b))
	otherHigh, otherLow := bits.Mul64(uint64(c), uint64(d))
	return high < otherHigh || high == otherHigh && low <= otherLow
}

// least returns the least number from low to high for which the answer to a question is yes, or high + 1 if there is none. Behind a yes there has to be no other answer.
func least(low, high int, question func(n int) bool) int {
	return low + sort.Search(high-low+1, func(i int) bool { return question(low + i) })
}

// greatest returns the first number from 0 to last at which the sum of the terms is greatest in size, and this sum.
func greatest(last int, termsAt func(n int) []int) (int, int) {
	place, most := 0, 0
	for n := range last + 1 {
		if now := sum(termsAt(n)...); abs(now) > abs(most) {
			place, most = n, now
		}
	}
	return place, most
}
