package axis_test

import (
	"fmt"
	"math"
	"slices"
	"testing"

	"stopcock/api"
	"stopcock/axis"
)

// negativeZero is written as a call: the constant -0.0 is a positive zero.
var negativeZero = math.Copysign(0, -1)

// notSegments and notSlots are the values that make a number no place, as its real and as its imaginary part.
var (
	notSegments = append([]float64{24, 24.5, 25, math.Nextafter(24, 0)}, notParts...)
	notSlots    = append([]float64{16, 16.5, 17, 23, 24, math.Nextafter(16, 0)}, notParts...)
)

// The powers of two have low bits that would look like a valid part if a conversion cut them off.
var notParts = []float64{
	math.NaN(), math.Float64frombits(0xfff8000000000001), math.Inf(1), math.Inf(-1),
	-1, -2, -0.5, -1e-300, -math.SmallestNonzeroFloat64,
	0.5, 1.5, 14.75, 1e-300, math.SmallestNonzeroFloat64, math.Nextafter(1, 0), math.Nextafter(1, 2),
	100, 256, 257, 1 << 16, 1<<16 + 1, 1 << 32, 1<<32 + 3, -(1 << 32), 1 << 53, 1 << 63, -(1 << 63), 1 << 64, 1<<64 + 1<<12,
	1e300, -1e300, math.MaxFloat64, -math.MaxFloat64,
}

func notPlaces() []complex128 {
	var list []complex128
	for _, x := range notSegments {
		list = append(list, complex(x, 0), complex(x, 5), complex(x, negativeZero))
	}
	for _, y := range notSlots {
		list = append(list, complex(0, y), complex(7, y), complex(negativeZero, y))
	}
	for _, x := range notSegments {
		for _, y := range notSlots {
			list = append(list, complex(x, y))
		}
	}
	return list
}

func place(segment, slot int) complex128 { return complex(float64(segment), float64(slot)) }

// samePlace compares bits, so that a negative zero differs from 0.
func samePlace(a, b complex128) bool {
	return math.Float64bits(real(a)) == math.Float64bits(real(b)) && math.Float64bits(imag(a)) == math.Float64bits(imag(b))
}

func samePlaces(a, b []complex128) bool { return slices.EqualFunc(a, b, samePlace) }

func allPlaces() []complex128 {
	var list []complex128
	for segment := range 24 {
		for slot := range 16 {
			list = append(list, place(segment, slot))
		}
	}
	return list
}

var badWidths = []int{0, -1, -2, -16, 17, 18, 24, 32, 256, 257, 1 << 16, math.MaxInt32, math.MinInt32, math.MaxInt, math.MinInt, math.MinInt + 1}

// P1.1: Whole and Parts.

func TestEveryPlaceIsWholeAndHasParts(t *testing.T) {
	for segment := range 24 {
		for slot := range 16 {
			checkParts(t, place(segment, slot), segment, slot)
		}
	}
}

func TestNegativeZeroIsTheIntegerZero(t *testing.T) {
	checkParts(t, complex(negativeZero, 0), 0, 0)
	checkParts(t, complex(0, negativeZero), 0, 0)
	checkParts(t, complex(negativeZero, negativeZero), 0, 0)
	checkParts(t, complex(negativeZero, 15), 0, 15)
	checkParts(t, complex(23, negativeZero), 23, 0)
}

func checkParts(t *testing.T, z complex128, segment, slot int) {
	t.Helper()
	if !axis.Whole(z) {
		t.Errorf("Whole(%v) = false", z)
	}
	a, b, e := axis.Parts(z)
	if a != segment || b != slot || e != api.OK {
		t.Errorf("Parts(%v) = %d, %d, %d, want %d, %d, 0", z, a, b, e, segment, slot)
	}
}

func TestOtherNumbersAreNoPlaces(t *testing.T) {
	for _, z := range notPlaces() {
		if axis.Whole(z) {
			t.Errorf("Whole(%v) = true", z)
		}
		if a, b, e := axis.Parts(z); a != 0 || b != 0 || e != api.ErrForm {
			t.Errorf("Parts(%v) = %d, %d, %d, want 0, 0, ErrForm", z, a, b, e)
		}
	}
}

// P1.1: Flat.

func TestFlatOfEveryPlace(t *testing.T) {
	for width := 1; width <= 16; width++ {
		for segment := range 24 {
			for slot := range 16 {
				want, wantE := segment*width+slot, api.OK
				if slot >= width {
					want, wantE = 0, api.ErrRange
				}
				checkFlat(t, place(segment, slot), width, want, wantE)
			}
		}
	}
}

func TestFlatExamples(t *testing.T) {
	checkFlat(t, complex(3, 2), 5, 17, api.OK)
	checkFlat(t, complex(3, 2), 3, 11, api.OK)
	checkFlat(t, complex(3, 2), 2, 0, api.ErrRange)
	checkFlat(t, complex(23, 15), 16, 383, api.OK)
	checkFlat(t, complex(23, 0), 1, 23, api.OK)
	checkFlat(t, complex(negativeZero, 4), 5, 4, api.OK)
	checkFlat(t, complex(6, negativeZero), 1, 6, api.OK)
}

func TestFlatNamesTheWidthFirst(t *testing.T) {
	for _, width := range badWidths {
		checkFlat(t, complex(3, 2), width, 0, api.ErrArg)
		checkFlat(t, complex(0, 0), width, 0, api.ErrArg)
		checkFlat(t, complex(0, 15), width, 0, api.ErrArg)
		checkFlat(t, complex(math.NaN(), 2), width, 0, api.ErrArg)
		checkFlat(t, complex(24, 16), width, 0, api.ErrArg)
	}
}

func TestFlatNamesTheFormBeforeTheRange(t *testing.T) {
	for _, z := range notPlaces() {
		for _, width := range []int{1, 2, 15, 16} {
			checkFlat(t, z, width, 0, api.ErrForm)
		}
	}
}

func checkFlat(t *testing.T, z complex128, width, want int, wantE api.Errno) {
	t.Helper()
	if n, e := axis.Flat(z, width); n != want || e != wantE {
		t.Errorf("Flat(%v, %d) = %d, %d, want %d, %d", z, width, n, e, want, wantE)
	}
}

// P1.1: Place.

func TestPlaceOfEveryNumber(t *testing.T) {
	for width := 1; width <= 16; width++ {
		n := 0
		for segment := range 24 {
			for slot := range width {
				checkPlace(t, n, width, place(segment, slot), api.OK)
				n++
			}
		}
		checkPlace(t, n, width, 0, api.ErrRange)
	}
}

func TestPlaceRefusesNumbersOfNoPlace(t *testing.T) {
	for width := 1; width <= 16; width++ {
		for _, n := range []int{-1, -2, -width, -width - 1, -24 * width, 24*width + 1, 24*width + width, 1 << 16, 1 << 32, -(1 << 32), math.MaxInt32, math.MinInt32, math.MaxInt, math.MinInt} {
			checkPlace(t, n, width, 0, api.ErrRange)
		}
	}
}

func TestPlaceNamesTheWidthFirst(t *testing.T) {
	for _, width := range badWidths {
		for _, n := range []int{0, 1, 17, -1, 408, math.MaxInt, math.MinInt} {
			checkPlace(t, n, width, 0, api.ErrArg)
		}
	}
}

func checkPlace(t *testing.T, n, width int, want complex128, wantE api.Errno) {
	t.Helper()
	if z, e := axis.Place(n, width); !samePlace(z, want) || e != wantE {
		t.Errorf("Place(%d, %d) = %v, %d, want %v, %d", n, width, z, e, want, wantE)
	}
}

// P1.2: Step.

func TestStepFromEveryPlaceToEveryOther(t *testing.T) {
	for _, width := range []int{1, 2, 5, 16} {
		last := 24*width - 1
		for from := range 24 * width {
			z := place(from/width, from%width)
			for to := range 24 * width {
				checkStep(t, z, to-from, width, place(to/width, to%width), api.OK)
			}
			checkStep(t, z, -from-1, width, 0, api.ErrRange)
			checkStep(t, z, last-from+1, width, 0, api.ErrRange)
		}
	}
}

func TestStepExamples(t *testing.T) {
	checkStep(t, complex(3, 2), 0, 5, complex(3, 2), api.OK)
	checkStep(t, complex(3, 2), 3, 5, complex(4, 0), api.OK)
	checkStep(t, complex(3, 2), -3, 5, complex(2, 4), api.OK)
	checkStep(t, complex(3, 2), -17, 5, 0, api.OK)
	checkStep(t, complex(3, 2), -18, 5, 0, api.ErrRange)
	checkStep(t, complex(3, 2), 102, 5, complex(23, 4), api.OK)
	checkStep(t, complex(3, 2), 103, 5, 0, api.ErrRange)
}

func TestStepReturnsNoNegativeZero(t *testing.T) {
	checkStep(t, complex(negativeZero, negativeZero), 0, 5, complex(0, 0), api.OK)
	checkStep(t, complex(negativeZero, 3), 1, 5, complex(0, 4), api.OK)
	checkStep(t, complex(6, negativeZero), 0, 1, complex(6, 0), api.OK)
	checkStep(t, complex(6, negativeZero), -6, 1, complex(0, 0), api.OK)
}

func TestStepByExtremeNumbers(t *testing.T) {
	for _, z := range []complex128{0, complex(0, 1), complex(3, 2), complex(23, 15)} {
		for _, back := range []int{0, 1, 2, 14, 15, 16, 17, 50, 51, 382, 383, 384} {
			checkStep(t, z, math.MaxInt-back, 16, 0, api.ErrRange)
			checkStep(t, z, math.MinInt+back, 16, 0, api.ErrRange)
		}
		for _, n := range []int{384, 385, -384, -385, 1 << 32, -(1 << 32), 1<<32 + 1, math.MaxInt32, math.MinInt32} {
			checkStep(t, z, n, 16, 0, api.ErrRange)
		}
	}
}

func TestStepReturnsTheErrorOfFlat(t *testing.T) {
	for _, width := range badWidths {
		checkStep(t, complex(3, 2), 1, width, 0, api.ErrArg)
		checkStep(t, complex(math.NaN(), 2), 1, width, 0, api.ErrArg)
		checkStep(t, complex(3, 2), math.MaxInt, width, 0, api.ErrArg)
	}
	for _, z := range notPlaces() {
		checkStep(t, z, 0, 5, 0, api.ErrForm)
		checkStep(t, z, math.MaxInt, 5, 0, api.ErrForm)
		checkStep(t, z, math.MinInt, 5, 0, api.ErrForm)
	}
	// The slot is refused even where adding n would lead to a place.
	checkStep(t, complex(3, 5), 0, 5, 0, api.ErrRange)
	checkStep(t, complex(3, 5), -1, 5, 0, api.ErrRange)
	checkStep(t, complex(0, 15), -15, 2, 0, api.ErrRange)
	checkStep(t, complex(0, 15), 1, 15, 0, api.ErrRange)
}

func checkStep(t *testing.T, z complex128, n, width int, want complex128, wantE api.Errno) {
	t.Helper()
	if got, e := axis.Step(z, n, width); !samePlace(got, want) || e != wantE {
		t.Errorf("Step(%v, %d, %d) = %v, %d, want %v, %d", z, n, width, got, e, want, wantE)
	}
}

// P1.2: Sort.

func TestSortOrdersAndDropsRepeats(t *testing.T) {
	for i, c := range []struct{ list, want []complex128 }{
		{nil, nil},
		{[]complex128{}, nil},
		{[]complex128{0}, []complex128{0}},
		{[]complex128{complex(23, 15)}, []complex128{complex(23, 15)}},
		{[]complex128{complex(1, 0), complex(0, 1)}, []complex128{complex(0, 1), complex(1, 0)}},
		{[]complex128{complex(0, 15), complex(1, 0)}, []complex128{complex(0, 15), complex(1, 0)}},
		{[]complex128{complex(10, 2), complex(9, 11), complex(2, 10)}, []complex128{complex(2, 10), complex(9, 11), complex(10, 2)}},
		{[]complex128{complex(3, 1), complex(0, 5), complex(3, 0), complex(3, 1)}, []complex128{complex(0, 5), complex(3, 0), complex(3, 1)}},
		{[]complex128{complex(4, 4), complex(4, 4), complex(4, 4)}, []complex128{complex(4, 4)}},
		{[]complex128{complex(2, 3), complex(3, 2), complex(2, 3), complex(3, 2)}, []complex128{complex(2, 3), complex(3, 2)}},
	} {
		got, e := axis.Sort(c.list...)
		if !samePlaces(got, c.want) || e != api.OK {
			t.Errorf("%d: Sort(%v) = %v, %d, want %v", i, c.list, got, e, c.want)
		}
	}
	if got, e := axis.Sort(); len(got) != 0 || e != api.OK {
		t.Errorf("Sort() = %v, %d", got, e)
	}
}

func TestSortEveryPlace(t *testing.T) {
	want := allPlaces()
	backward := allPlaces()
	slices.Reverse(backward)
	// 173 has no divisor in common with 384, so that each place occurs once.
	var mixed []complex128
	for i := range want {
		mixed = append(mixed, want[i*173%len(want)])
	}
	for _, list := range [][]complex128{want, backward, mixed, slices.Concat(mixed, backward, want)} {
		if got, e := axis.Sort(list...); !samePlaces(got, want) || e != api.OK {
			t.Errorf("Sort of %d places: %d, %v", len(list), e, got)
		}
	}
}

func TestSortReturnsNoNegativeZero(t *testing.T) {
	list := []complex128{
		complex(negativeZero, 5), complex(5, negativeZero), complex(0, 5), complex(5, 0),
		complex(negativeZero, 0), complex(0, negativeZero), complex(negativeZero, negativeZero), 0, complex(negativeZero, 1),
	}
	want := []complex128{0, complex(0, 1), complex(0, 5), complex(5, 0)}
	for range len(list) {
		if got, e := axis.Sort(list...); !samePlaces(got, want) || e != api.OK {
			t.Errorf("Sort(%v) = %v, %d, want %v", list, got, e, want)
		}
		list = append(list[1:], list[0])
	}
	if got, e := axis.Sort(complex(negativeZero, negativeZero)); !samePlaces(got, []complex128{0}) || e != api.OK {
		t.Errorf("Sort of one negative zero: %v, %d", got, e)
	}
}

func TestSortRefusesOtherNumbers(t *testing.T) {
	for _, z := range notPlaces() {
		for _, list := range [][]complex128{{z}, {z, 0, 1}, {0, z, 1}, {0, 1, z}, {z, z}} {
			checkSortFails(t, fmt.Sprint(list), list, api.ErrForm)
		}
	}
}

func TestSortOfLongLists(t *testing.T) {
	list := make([]complex128, 4096)
	for i := range list {
		list[i] = place(23-i%24, i%16)
	}
	want := slices.Clone(list[:48])
	slices.SortFunc(want, func(a, b complex128) int { return int(16*(real(a)-real(b)) + imag(a) - imag(b)) })
	for _, n := range []int{4095, 4096} {
		if got, e := axis.Sort(list[:n]...); !samePlaces(got, want) || e != api.OK {
			t.Errorf("Sort of %d numbers: %d, %v", n, e, got)
		}
	}
	checkSortFails(t, "4097 places", append(list, 0), api.ErrArg)
	checkSortFails(t, "4097 zeros", make([]complex128, 4097), api.ErrArg)
	checkSortFails(t, "10000 zeros", make([]complex128, 10000), api.ErrArg)
	list[4095] = complex(0.5, 0)
	checkSortFails(t, "4096 numbers, the last no place", list, api.ErrForm)
	checkSortFails(t, "4097 numbers, one no place", append(list, 0), api.ErrArg)
	list[0] = complex(math.NaN(), math.NaN())
	checkSortFails(t, "4097 numbers, the first no place", append(list, 0), api.ErrArg)
}

func checkSortFails(t *testing.T, what string, list []complex128, wantE api.Errno) {
	t.Helper()
	if got, e := axis.Sort(list...); len(got) != 0 || e != wantE {
		t.Errorf("Sort of %s: %v, %d, want nothing, %d", what, got, e, wantE)
	}
}

// P1, R4 and R5 for Sort, the only function that is given and returns memory.

func TestSortLeavesItsArgumentsAlone(t *testing.T) {
	for _, given := range sortArguments() {
		whole := given[:cap(given)]
		before := slices.Clone(whole)
		axis.Sort(given...)
		if !samePlaces(whole, before) {
			t.Errorf("Sort changed %v to %v", before, whole)
		}
	}
}

func TestSortReturnsNewMemory(t *testing.T) {
	for _, given := range sortArguments() {
		whole := given[:cap(given)]
		before := slices.Clone(whole)
		first, e := axis.Sort(given...)
		if e != api.OK {
			continue
		}
		second, _ := axis.Sort(given...)
		want := slices.Clone(first)
		overwrite(second)
		if !samePlaces(first, want) {
			t.Errorf("two results of Sort(%v) share memory", before)
		}
		overwrite(first)
		if !samePlaces(whole, before) {
			t.Errorf("the result of Sort(%v) shares memory with it", before)
		}
		if third, e := axis.Sort(given...); !samePlaces(third, want) || e != api.OK {
			t.Errorf("Sort(%v) returned %v, and then %v, %d", before, want, third, e)
		}
	}
}

// sortArguments are lists with spare capacity: out of order, in order, with repeats, empty, and refused.
func sortArguments() [][]complex128 {
	spare := func(list ...complex128) []complex128 {
		whole := append(slices.Clone(list), complex(9, 9), complex(1, 1), complex(math.NaN(), 0), complex(negativeZero, negativeZero))
		return whole[:len(list)]
	}
	return [][]complex128{
		spare(),
		spare(complex(3, 3)),
		spare(complex(negativeZero, 3)),
		spare(complex(1, 2), complex(2, 1), complex(2, 2)),
		spare(complex(2, 2), complex(2, 1), complex(1, 2)),
		spare(complex(2, 2), complex(negativeZero, 1), complex(2, 2), complex(0, negativeZero), 0),
		spare(complex(2, 2), complex(0, 1), complex(0.5, 1), complex(0, 0)),
	}
}

func overwrite(list []complex128) {
	list = list[:cap(list)]
	for i := range list {
		list[i] = complex(-7, -7)
	}
}
