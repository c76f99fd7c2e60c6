package plat_test

import (
	"math"
	"testing"

	"stopcock/api"
	"stopcock/plat"
)

// negativeZero is written as a call: the constant -0.0 is a positive zero.
var negativeZero = math.Copysign(0, -1)

// notSegments and notBlocks are the numbers that make a geometry invalid. The extreme ones have low bits that look like a valid number if a conversion cuts them off.
var (
	notSegments = append([]int{0, 1, 2, 4, 5, 25, 26, 30, 32}, extremes...)
	notBlocks   = append([]int{0, 1, 17, 18, 24, 32}, extremes...)
)

var extremes = []int{
	-1, -2, -6, -8, -16, -24, -256, -256 + 8, 256, 256 + 8, 1<<16 + 8, 1 << 20,
	math.MaxInt32, math.MinInt32, math.MinInt32 + 8, math.MaxInt32 - 7,
	math.MaxInt, math.MaxInt - 7, math.MaxInt/2 + 1 + 8, math.MinInt, math.MinInt + 8, math.MinInt + 16, math.MinInt / 2,
}

// notParts make a number no place, as its real and as its imaginary part. The powers of two have low bits that look like a valid part.
var notParts = []float64{
	math.NaN(), math.Inf(1), math.Inf(-1), -1, -2, -0.5, -1e-300, 0.5, 1.5, math.SmallestNonzeroFloat64,
	math.Nextafter(1, 0), math.Nextafter(1, 2), 24, 25, 24.5, 256, 257, 1<<16 + 1, 1<<32 + 3, -(1 << 32), 1 << 53,
	1 << 63, -(1 << 63), 1<<64 + 1<<12, 1e300, -1e300, math.MaxFloat64,
}

func place(segment, slot int) complex128 { return complex(float64(segment), float64(slot)) }

// valid are all valid geometries. The limits are numbers here: one that the program misreads shows.
func valid() []api.Plat {
	var list []api.Plat
	for segments := 6; segments <= 24; segments++ {
		for blocks := 2; blocks <= 16; blocks++ {
			list = append(list, api.Plat{Segments: segments, Blocks: blocks})
		}
	}
	return list
}

// invalid are geometries of which one number is invalid, or both.
func invalid() []api.Plat {
	var list []api.Plat
	for _, segments := range notSegments {
		for _, blocks := range []int{2, 3, 4, 8, 15, 16} {
			list = append(list, api.Plat{Segments: segments, Blocks: blocks})
		}
		for _, blocks := range notBlocks {
			list = append(list, api.Plat{Segments: segments, Blocks: blocks})
		}
	}
	for _, segments := range []int{6, 7, 8, 16, 23, 24} {
		for _, blocks := range notBlocks {
			list = append(list, api.Plat{Segments: segments, Blocks: blocks})
		}
	}
	return list
}

// corners are the geometries at the edges, and some between.
var corners = []api.Plat{
	{Segments: 6, Blocks: 2}, {Segments: 6, Blocks: 16}, {Segments: 24, Blocks: 2}, {Segments: 24, Blocks: 16},
	{Segments: 8, Blocks: 4}, {Segments: 7, Blocks: 3}, {Segments: 23, Blocks: 15}, {Segments: 16, Blocks: 6}, {Segments: 12, Blocks: 12},
}

func checkCheck(t *testing.T, p api.Plat, want api.Errno) {
	t.Helper()
	if e := plat.Check(p); e != want {
		t.Errorf("Check(%v) = %d, want %d", p, e, want)
	}
}

func checkSectors(t *testing.T, p api.Plat, want int, wantE api.Errno) {
	t.Helper()
	if n, e := plat.Sectors(p); n != want || e != wantE {
		t.Errorf("Sectors(%v) = %d, %d, want %d, %d", p, n, e, want, wantE)
	}
}

func checkAt(t *testing.T, p api.Plat, z complex128, want int, wantE api.Errno) {
	t.Helper()
	if n, e := plat.At(p, z); n != want || e != wantE {
		t.Errorf("At(%v, %v) = %d, %d, want %d, %d", p, z, n, e, want, wantE)
	}
}

func checkCapacity(t *testing.T, p api.Plat, want int, wantE api.Errno) {
	t.Helper()
	if n, e := plat.Capacity(p); n != want || e != wantE {
		t.Errorf("Capacity(%v) = %d, %d, want %d, %d", p, n, e, want, wantE)
	}
}

func checkBound(t *testing.T, p api.Plat, position, window int, want int, wantE api.Errno) {
	t.Helper()
	if n, e := plat.Bound(p, position, window); n != want || e != wantE {
		t.Errorf("Bound(%v, %d, %d) = %d, %d, want %d, %d", p, position, window, n, e, want, wantE)
	}
}

// P6.1: Check.

func TestCheckOfValidGeometries(t *testing.T) {
	for _, p := range valid() {
		checkCheck(t, p, api.OK)
	}
}

func TestCheckOfInvalidGeometries(t *testing.T) {
	checkCheck(t, api.Plat{}, api.ErrArg)
	checkCheck(t, api.Plat{Segments: 5, Blocks: 2}, api.ErrArg)
	checkCheck(t, api.Plat{Segments: 25, Blocks: 16}, api.ErrArg)
	checkCheck(t, api.Plat{Segments: 6, Blocks: 1}, api.ErrArg)
	checkCheck(t, api.Plat{Segments: 24, Blocks: 17}, api.ErrArg)
	// The numbers of each other's range: the two are not confused.
	checkCheck(t, api.Plat{Segments: 2, Blocks: 6}, api.ErrArg)
	checkCheck(t, api.Plat{Segments: 16, Blocks: 24}, api.ErrArg)
	for _, p := range invalid() {
		checkCheck(t, p, api.ErrArg)
	}
}

// P6.1: Sectors.

func TestSectorsExamples(t *testing.T) {
	checkSectors(t, api.Plat{Segments: 6, Blocks: 2}, 52, api.OK)
	checkSectors(t, api.Plat{Segments: 6, Blocks: 16}, 136, api.OK)
	checkSectors(t, api.Plat{Segments: 24, Blocks: 2}, 88, api.OK)
	checkSectors(t, api.Plat{Segments: 24, Blocks: 16}, 424, api.OK)
	checkSectors(t, api.Plat{Segments: 7, Blocks: 5}, 75, api.OK)
}

func TestSectorsOfEveryGeometry(t *testing.T) {
	for _, p := range valid() {
		// Counted part by part: two areas, the log, and each segment.
		want := 12 + 12 + 16
		for range p.Segments {
			want += p.Blocks
		}
		checkSectors(t, p, want, api.OK)
	}
}

func TestSectorsRefusesInvalidGeometries(t *testing.T) {
	for _, p := range invalid() {
		checkSectors(t, p, 0, api.ErrArg)
	}
}

// P6.1: At.

func TestAtExamples(t *testing.T) {
	p := api.Plat{Segments: 7, Blocks: 5}
	checkAt(t, p, 0, 40, api.OK)
	checkAt(t, p, complex(0, 1), 41, api.OK)
	checkAt(t, p, complex(1, 0), 45, api.OK)
	checkAt(t, p, complex(3, 4), 59, api.OK)
	checkAt(t, p, complex(6, 4), 74, api.OK)
	checkAt(t, p, complex(7, 0), 0, api.ErrRange)
	checkAt(t, p, complex(0, 5), 0, api.ErrRange)
	checkAt(t, p, complex(4, 6), 0, api.ErrRange)
	checkAt(t, p, complex(negativeZero, 3), 43, api.OK)
	checkAt(t, p, complex(2, negativeZero), 50, api.OK)
	checkAt(t, p, complex(negativeZero, negativeZero), 40, api.OK)
}

func TestAtNumbersThePlacesOfADeviceOneByOne(t *testing.T) {
	for _, p := range valid() {
		next := 40
		for segment := range p.Segments {
			for slot := range p.Blocks {
				checkAt(t, p, place(segment, slot), next, api.OK)
				next++
			}
		}
		checkSectors(t, p, next, api.OK)
	}
}

func TestAtRefusesPlacesThatTheGeometryDoesNotHave(t *testing.T) {
	for _, p := range valid() {
		for segment := range 24 {
			for slot := range 16 {
				if segment >= p.Segments || slot >= p.Blocks {
					checkAt(t, p, place(segment, slot), 0, api.ErrRange)
				}
			}
		}
	}
}

func TestAtRefusesWhatIsNoPlace(t *testing.T) {
	for _, p := range corners {
		for _, x := range notParts {
			// The form is named before the range, whichever part is wrong.
			for _, y := range []float64{0, 1, 15, negativeZero, 0.5, math.NaN()} {
				checkAt(t, p, complex(x, y), 0, api.ErrForm)
			}
			for _, y := range []float64{0, 1, 5, 6, 23, negativeZero} {
				checkAt(t, p, complex(y, x), 0, api.ErrForm)
			}
		}
		checkAt(t, p, complex(23, 16), 0, api.ErrForm)
		checkAt(t, p, complex(24, 15), 0, api.ErrForm)
		checkAt(t, p, -1, 0, api.ErrForm)
	}
}

func TestAtNamesTheGeometryFirst(t *testing.T) {
	for _, p := range invalid() {
		for _, z := range []complex128{0, complex(1, 1), complex(0, 15), complex(23, 0), complex(24, 0), complex(0, 0.5), complex(math.NaN(), 0), complex(0, math.Inf(1))} {
			checkAt(t, p, z, 0, api.ErrArg)
		}
	}
}

// P6.2: Capacity.

func TestCapacityExamples(t *testing.T) {
	checkCapacity(t, api.Plat{Segments: 6, Blocks: 2}, 4, api.OK)
	checkCapacity(t, api.Plat{Segments: 6, Blocks: 16}, 32, api.OK)
	checkCapacity(t, api.Plat{Segments: 24, Blocks: 2}, 40, api.OK)
	checkCapacity(t, api.Plat{Segments: 24, Blocks: 16}, 320, api.OK)
	checkCapacity(t, api.Plat{Segments: 9, Blocks: 7}, 35, api.OK)
}

func TestCapacityOfEveryGeometry(t *testing.T) {
	for _, p := range valid() {
		// Counted by segments: all but four.
		want := 0
		for segment := 4; segment < p.Segments; segment++ {
			want += p.Blocks
		}
		checkCapacity(t, p, want, api.OK)
	}
}

func TestCapacityRefusesInvalidGeometries(t *testing.T) {
	for _, p := range invalid() {
		checkCapacity(t, p, 0, api.ErrArg)
	}
}

// P6.2: Bound.

func TestBoundExamples(t *testing.T) {
	checkBound(t, api.Plat{Segments: 6, Blocks: 2}, 0, 1, 28, api.OK)
	checkBound(t, api.Plat{Segments: 6, Blocks: 2}, 0, 2, 56, api.OK)
	checkBound(t, api.Plat{Segments: 6, Blocks: 2}, 1, 1, 56, api.OK)
	checkBound(t, api.Plat{Segments: 8, Blocks: 4}, 3, 5, 1360, api.OK)
	checkBound(t, api.Plat{Segments: 7, Blocks: 5}, 15, 4096, 4849664, api.OK)
	checkBound(t, api.Plat{Segments: 24, Blocks: 16}, 15, 4096, 50593792, api.OK)
	checkBound(t, api.Plat{Segments: 24, Blocks: 16}, 0, 1, 772, api.OK)
}

func TestBoundIsProportional(t *testing.T) {
	for _, p := range valid() {
		sectors, e := plat.Sectors(p)
		if e != api.OK {
			t.Fatalf("Sectors(%v): %d", p, e)
		}
		for position := range 16 {
			for _, window := range []int{1, 2, 3, 7, 16, 100, 1024, 4095, 4096} {
				checkBound(t, p, position, window, (position+1)*window*(2*(sectors-40)+4), api.OK)
			}
		}
	}
}

func TestBoundAcceptsEveryWindow(t *testing.T) {
	for window := 1; window <= 4096; window++ {
		checkBound(t, api.Plat{Segments: 6, Blocks: 2}, 2, window, 84*window, api.OK)
	}
}

func TestBoundRefusesPositionsAndWindows(t *testing.T) {
	notPositions := append([]int{17, 24, 31, 4096, 16}, extremes...)
	notWindows := append([]int{0, 4097, 4098, 8192, 1<<16 + 1, 1<<32 + 1}, negatives()...)
	for _, p := range corners {
		for _, position := range notPositions {
			for _, window := range []int{1, 2, 4095, 4096} {
				checkBound(t, p, position, window, 0, api.ErrArg)
			}
			checkBound(t, p, position, 0, 0, api.ErrArg)
			checkBound(t, p, position, 4097, 0, api.ErrArg)
		}
		for _, window := range notWindows {
			for _, position := range []int{0, 1, 14, 15} {
				checkBound(t, p, position, window, 0, api.ErrArg)
			}
		}
	}
}

// negatives are the extremes that are no windows either.
func negatives() []int {
	var list []int
	for _, n := range extremes {
		if n < 1 || n > 4096 {
			list = append(list, n)
		}
	}
	return list
}

func TestBoundRefusesInvalidGeometries(t *testing.T) {
	for _, p := range invalid() {
		checkBound(t, p, 0, 1, 0, api.ErrArg)
		checkBound(t, p, 15, 4096, 0, api.ErrArg)
		checkBound(t, p, -1, 1, 0, api.ErrArg)
		checkBound(t, p, 0, 0, 0, api.ErrArg)
	}
}

// R5: no call changes what another one returns.

func TestCallsDoNotDependOnEachOther(t *testing.T) {
	small, great := api.Plat{Segments: 6, Blocks: 2}, api.Plat{Segments: 24, Blocks: 16}
	for range 3 {
		checkSectors(t, small, 52, api.OK)
		checkSectors(t, api.Plat{}, 0, api.ErrArg)
		checkSectors(t, great, 424, api.OK)
		checkAt(t, great, complex(23, 15), 423, api.OK)
		checkAt(t, small, complex(23, 15), 0, api.ErrRange)
		checkAt(t, small, complex(5, 1), 51, api.OK)
		checkCapacity(t, great, 320, api.OK)
		checkCapacity(t, small, 4, api.OK)
		checkBound(t, small, 0, 1, 28, api.OK)
		checkBound(t, small, 16, 1, 0, api.ErrArg)
		checkBound(t, great, 0, 1, 772, api.OK)
	}
}
