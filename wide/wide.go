// Package wide is layer 1: see shared/doc/01-wide.md.
package wide

import (
	"math/bits"

	"pacemaker/api"
)

// halfBits is how many bits a half of a wide number has.
const halfBits = 64

// halves tells the lower half first: sums carry from place to place that way.
func halves(a api.Wide) [2]uint64 { return [2]uint64{a.Lo, a.Hi} }

func whole(h [2]uint64) api.Wide { return api.Wide{Hi: h[1], Lo: h[0]} }

// Add is P1.1.
func Add(a, b api.Wide) (api.Wide, uint64) {
	sum, other := halves(a), halves(b)
	over := uint64(0)
	for i, half := range other {
		sum[i], over = bits.Add64(sum[i], half, over)
	}
	return whole(sum), over
}

// Sub is P1.1.
func Sub(a, b api.Wide) (api.Wide, uint64) {
	rest, other := halves(a), halves(b)
	under := uint64(0)
	for i, half := range other {
		rest[i], under = bits.Sub64(rest[i], half, under)
	}
	return whole(rest), under
}

// Mul is P1.2.
func Mul(x, y uint64) api.Wide {
	hi, lo := bits.Mul64(x, y)
	return api.Wide{Hi: hi, Lo: lo}
}

// Div is P1.2.
func Div(a api.Wide, d uint64) (api.Wide, uint64, api.Errno) {
	if d == 0 {
		return api.Wide{}, 0, api.ErrArg
	}
	times := halves(a)
	left := uint64(0)
	for i := range times {
		// From the upper half down: left stays below d, as bits.Div64 needs it.
		place := len(times) - 1 - i
		times[place], left = bits.Div64(left, times[place], d)
	}
	return whole(times), left, api.OK
}

// Cmp is P1.1.
func Cmp(a, b api.Wide) int {
	if a == b {
		return 0
	}
	if _, under := Sub(a, b); under == 1 {
		return -1
	}
	return 1
}

// Left is P1.3.
func Left(a api.Wide, n int) api.Wide {
	switch {
	case n < 0:
		return a
	case n < halfBits:
		return api.Wide{Hi: a.Hi<<n | a.Lo>>(halfBits-n), Lo: a.Lo << n}
	default:
		// A shift of a half by 64 or more leaves 0, so n above 127 needs no case.
		return api.Wide{Hi: a.Lo << (n - halfBits)}
	}
}

// Right is P1.3.
func Right(a api.Wide, n int) api.Wide {
	switch {
	case n < 0:
		return a
	case n < halfBits:
		return api.Wide{Hi: a.Hi >> n, Lo: a.Lo>>n | a.Hi<<(halfBits-n)}
	default:
		// As in Left.
		return api.Wide{Lo: a.Hi >> (n - halfBits)}
	}
}

// Len is P1.3.
func Len(a api.Wide) int {
	n := 0
	for i, half := range halves(a) {
		if half != 0 {
			n = i*halfBits + bits.Len64(half)
		}
	}
	return n
}
