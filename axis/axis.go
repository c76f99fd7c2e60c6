// Package axis represents places as complex numbers: the real part is a segment, the imaginary part a slot.
package axis

import (
	"slices"

	"stopcock/api"
)

// Whole reports whether z is a place.
func Whole(z complex128) bool {
	_, _, e := Parts(z)
	return e == api.OK
}

// Parts returns the segment and the slot of a place.
func Parts(z complex128) (segment, slot int, e api.Errno) {
	segment, ok := index(real(z), api.MaxSegments)
	if !ok {
		return 0, 0, api.ErrForm
	}
	slot, ok = index(imag(z), api.MaxBlocks)
	if !ok {
		return 0, 0, api.ErrForm
	}
	return segment, slot, api.OK
}

// Flat returns the number of a place, counted through segments of width slots each.
func Flat(z complex128, width int) (int, api.Errno) {
	if !isWidth(width) {
		return 0, api.ErrArg
	}
	segment, slot, e := Parts(z)
	if e != api.OK {
		return 0, e
	}
	if slot >= width {
		return 0, api.ErrRange
	}
	return segment*width + slot, api.OK
}

// Place returns the place whose Flat is n.
func Place(n, width int) (complex128, api.Errno) {
	if !isWidth(width) {
		return 0, api.ErrArg
	}
	if n < 0 || n >= api.MaxSegments*width {
		return 0, api.ErrRange
	}
	return compose(n/width, n%width), api.OK
}

// Step returns the place n slots after z, or before it if n is negative.
func Step(z complex128, n, width int) (complex128, api.Errno) {
	from, e := Flat(z, width)
	if e != api.OK {
		return 0, e
	}
	// No two places are that far apart, and the sum below could overflow.
	if n > api.MaxSegments*width {
		return 0, api.ErrRange
	}
	return Place(from+n, width)
}

// Sort returns the places in increasing order of segments, then of slots, each once.
func Sort(list ...complex128) ([]complex128, api.Errno) {
	if len(list) > api.MaxList {
		return nil, api.ErrArg
	}
	// Numbers rather than the places themselves are sorted: they have an order, and no negative zeros.
	numbers := make([]int, len(list))
	for i, z := range list {
		n, e := Flat(z, api.MaxBlocks)
		if e != api.OK {
			return nil, e
		}
		numbers[i] = n
	}
	slices.Sort(numbers)
	numbers = slices.Compact(numbers)
	places := make([]complex128, len(numbers))
	for i, n := range numbers {
		places[i] = compose(n/api.MaxBlocks, n%api.MaxBlocks)
	}
	return places, api.OK
}

// isWidth reports whether segments may have that many slots.
func isWidth(width int) bool {
	return width >= 1 && width <= api.MaxBlocks
}

// index returns x as an int, and whether x is an integer from 0 to limit - 1.
func index(x float64, limit int) (int, bool) {
	// The range is checked first, in a form that is false for NaN: Go does not define the conversion of such numbers.
	inRange := x >= 0 && x < float64(limit)
	if !inRange {
		return 0, false
	}
	n := int(x)
	if float64(n) != x {
		return 0, false
	}
	return n, true
}

// compose returns the place of a segment and a slot. Parts made from ints are never negative zeros.
func compose(segment, slot int) complex128 {
	return complex(float64(segment), float64(slot))
}
