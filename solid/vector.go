package solid

import "iter"

// vector is three numbers: a normal, a movement, or the numerators of a point.
type vector [3]int

// times returns the scalar product of two vectors.
func (v vector) times(w vector) int {
	return v[0]*w[0] + v[1]*w[1] + v[2]*w[2]
}

// cross returns the cross product of two vectors.
func cross(v, w vector) vector {
	return vector{
		v[1]*w[2] - v[2]*w[1],
		v[2]*w[0] - v[0]*w[2],
		v[0]*w[1] - v[1]*w[0],
	}
}

// within reports whether all numbers of a vector are from -limit to limit.
func (v vector) within(limit int) bool {
	for _, n := range v {
		if n < -limit || n > limit {
			return false
		}
	}
	return true
}

// gcd returns the greatest common divisor of any numbers; it is 0 if all of them are 0.
func gcd(numbers ...int) int {
	divisor := 0
	for _, n := range numbers {
		for n != 0 {
			divisor, n = n, divisor%n
		}
	}
	if divisor < 0 {
		return -divisor
	}
	return divisor
}

// floor returns num/den rounded down, for den above 0.
func floor(num, den int) int {
	quotient := num / den
	if num%den < 0 {
		quotient--
	}
	return quotient
}

// ceiling returns num/den rounded up, for den above 0.
func ceiling(num, den int) int {
	return -floor(-num, den)
}

// pairs yields each two of n numbers, the lesser one first.
func pairs(n int) iter.Seq2[int, int] {
	return func(yield func(int, int) bool) {
		for i := range n {
			for j := i + 1; j < n; j++ {
				if !yield(i, j) {
					return
				}
			}
		}
	}
}

// triples yields each three of n numbers, ascending.
func triples(n int) iter.Seq[[3]int] {
	return func(yield func([3]int) bool) {
		for i, j := range pairs(n) {
			for k := j + 1; k < n; k++ {
				if !yield([3]int{i, j, k}) {
					return
				}
			}
		}
	}
}
