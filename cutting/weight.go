package cutting

import "spokeshave/api"

const (
	maxK   = 20
	maxDen = 1000000
)

// Weight returns the weight of a fraction from 0 to 1.
func Weight(k, num, den int) (api.Frac, api.Errno) {
	if !within(0, maxK, k) || !within(1, maxDen, den) || !within(0, den, num) {
		return api.Frac{}, api.ErrRange
	}
	return weightOf(k, num, den), api.OK
}

// Weights returns the weight of a piece of each blank.
func Weights(j api.Job, k [2]int) ([]api.Frac, api.Errno) {
	if e := CheckJob(j); e != api.OK {
		return nil, e
	}
	if !within(0, maxK, k[:]...) {
		return nil, api.ErrRange
	}
	return weightsOf(j, k)
}

// weightsOf returns Weights for arguments without errors, or ErrNone.
func weightsOf(j api.Job, k [2]int) ([]api.Frac, api.Errno) {
	rooms := roomsOf(j)
	var weights []api.Frac
	for _, blank := range j.Blanks {
		room := rooms[blank.Species]
		if blank.Length > room[0] || blank.Width > room[1] {
			return nil, api.ErrNone
		}
		kerf := j.Trim.Kerf
		along := weightOf(k[0], blank.Length+kerf, room[0]+kerf)
		across := weightOf(k[1], blank.Width+kerf, room[1]+kerf)
		weights = append(weights, lowest(along.Num*across.Num, along.Den*across.Den))
	}
	return weights, api.OK
}

// roomsOf returns the greatest length and the greatest width of the usable rectangles of each species.
func roomsOf(j api.Job) map[string][2]int {
	rooms := map[string][2]int{}
	for _, b := range j.Stock {
		r, room := usable(b, j.Trim), rooms[b.Species]
		rooms[b.Species] = [2]int{max(room[0], lengthOf(r)), max(room[1], widthOf(r))}
	}
	return rooms
}

// weightOf returns the weight of a fraction without errors.
func weightOf(k, num, den int) api.Frac {
	if k == 0 || (k+1)*num%den == 0 {
		return lowest(num, den)
	}
	return lowest((k+1)*num/den, k)
}

// lowest returns a fraction in lowest terms; num is not negative, and den above 0.
func lowest(num, den int) api.Frac {
	divisor := gcd(num, den)
	return api.Frac{Num: num / divisor, Den: den / divisor}
}

// plus returns the sum of two fractions. By their least common denominator the sums of weights stay small: it divides the product of the sizes, or of the k and k + 1, of a species.
func plus(a, b api.Frac) api.Frac {
	divisor := gcd(a.Den, b.Den)
	return lowest(a.Num*(b.Den/divisor)+b.Num*(a.Den/divisor), a.Den/divisor*b.Den)
}

// gcd returns the greatest common divisor of two numbers that are not negative.
func gcd(a, b int) int {
	for b != 0 {
		a, b = b, a%b
	}
	return a
}
