// Package dial is clocks that are not in step.
package dial

import (
	"math"

	"copyhold/api"
)

// Sound: may it be a clock?
func Sound(z complex128) bool {
	return sound(real(z)) && sound(imag(z))
}

// sound: may it be a part of a clock? What is not a number is refused by the bounds, as no comparison holds for it.
func sound(part float64) bool {
	return part >= 0 && part <= api.MaxClock && part == math.Trunc(part)
}

// Parts: what a clock shows, and how many moments have gone by in truth.
func Parts(z complex128) (shown, gone int, e api.Errno) {
	if !Sound(z) {
		return 0, 0, api.ErrForm
	}
	return int(real(z)), int(imag(z)), api.OK
}

// Step: a clock some moments later, in which it went on by so much.
func Step(z complex128, gone, shown int) (complex128, api.Errno) {
	wasShown, wasGone, e := Parts(z)
	if e != api.OK {
		return 0, e
	}
	if gone < 0 || shown < 0 {
		return 0, api.ErrArg
	}
	// The bound comes ahead of the step: behind it, all that follows is exact in a float.
	if shown > api.MaxClock-wasShown || gone > api.MaxClock-wasGone {
		return 0, api.ErrRange
	}
	difference := complex(float64(shown), float64(gone))
	if !keepsStep(difference) {
		return 0, api.ErrRange
	}
	return z + difference, api.OK
}

// keepsStep: is a difference of clocks one that keeps step? It is turned so that the two bounds of step become the two
// axes: the real part is then 5 times shown less 4 times gone, the imaginary part 5 times gone less 4 times shown.
// No difference with a part below 0 keeps step.
func keepsStep(difference complex128) bool {
	mirrored := complex(imag(difference), real(difference))
	turned := api.Fast*difference - api.Slow*mirrored
	return real(turned) >= 0 && imag(turned) >= 0
}

// Near: by how much a clock may go on in some moments, as near as may be to what is wished.
func Near(gone, wish int) (int, api.Errno) {
	if gone < 0 || gone > api.MaxClock {
		return 0, api.ErrArg
	}
	return min(max(wish, least(gone)), most(gone)), api.OK
}

// least: the least number that keeps step with a number from 0 on, which is 4/5 of it, rounded up.
func least(n int) int {
	return (n*api.Slow + api.Fast - 1) / api.Fast
}

// most: the greatest number that keeps step with a number from 0 on, which is 5/4 of it, rounded down. Step is the
// same both ways: it is as well what a clock shows at most in n moments, as how many moments go by at most while it
// goes on by n.
func most(n int) int {
	return n * api.Fast / api.Slow
}

// True: does a clock that was one, and is another one now, keep step?
func True(a, b complex128) bool {
	return Sound(a) && Sound(b) && keepsStep(b-a)
}

// Lasts: is less than a term gone by on a clock?
func Lasts(since, now complex128, term int) bool {
	from, _, e := Parts(since)
	if e != api.OK {
		return false
	}
	to, _, e := Parts(now)
	if e != api.OK {
		return false
	}
	return to >= from && to-from < term
}

// Longer: the least term for which one clock always lasts as another one does for a term.
func Longer(term int) (int, api.Errno) {
	if term < 1 || term > api.MaxClock {
		return 0, api.ErrArg
	}
	// The slowest clock that has not come to the term yet lets the most moments go by; the fastest one shows the most
	// in them.
	moments := most(term - 1)
	return most(moments) + 1, api.OK
}
