package ratio_test

import (
	"math"
	"math/big"
	"slices"
	"testing"

	"stopcock/api"
	"stopcock/ratio"
)

// greatest is the greatest valid part, written as a number: a limit that the program misreads shows.
const greatest = 1048576

// parts are valid as numerators, and all but the 0 as denominators.
var parts = []int{0, 1, 2, 3, 4, 5, 6, 7, 10, 15, 16, 17, 255, 256, 1023, 46340, 46341, 65535, 65536, 65537, 524287, 524288, 524289, 1048573, 1048574, 1048575, greatest}

// notParts are not valid as any part. The extreme ones have low bits that look like a valid part if a conversion cuts them off.
var notParts = []int{
	-1, -2, -3, -16, -65536, -1048575, -greatest, -greatest - 1,
	greatest + 1, greatest + 2, 2 * greatest, 2*greatest + 1, 1 << 24, 1 << 30,
	math.MaxInt32, math.MaxInt32 - 1, math.MinInt32, math.MinInt32 + 1,
	math.MaxInt, math.MaxInt - 1, math.MaxInt/2 + 1, math.MaxInt/2 + 2, math.MaxInt/2 + 1 + greatest,
	math.MinInt, math.MinInt + 1, math.MinInt + 2, math.MinInt + greatest, math.MinInt / 2, math.MinInt/2 + 1,
}

var notDenominators = append([]int{0}, notParts...)

func rat(a, b int) *big.Rat { return big.NewRat(int64(a), int64(b)) }

// P2.1: Compare.

func TestCompareExamples(t *testing.T) {
	for _, c := range [][5]int{
		{1, 3, 2, 5, -1}, {2, 5, 1, 3, 1}, {2, 4, 3, 6, 0}, {1, 2, 1, 2, 0},
		{0, 1, 0, 9, 0}, {0, greatest, 0, 1, 0}, {0, 1, 1, greatest, -1}, {1, greatest, 0, 1, 1},
		{7, 1, 6, 1, 1}, {1, 7, 1, 6, -1}, {3, 2, 4, 3, 1}, {9, 4, 7, 3, -1},
		{greatest, 1, greatest - 1, 1, 1}, {greatest - 1, 1, greatest, 1, -1}, {greatest, 1, greatest, 1, 0},
		{greatest, greatest, 1, 1, 0}, {greatest, 2, 524288, 1, 0}, {greatest, 1, 1, greatest, 1}, {1, greatest, greatest, 1, -1},
		// These products differ by 1 and are close to 2^40: floats of 32 bits do not tell them apart.
		{greatest - 1, greatest, greatest - 2, greatest - 1, 1}, {greatest - 2, greatest - 1, greatest - 1, greatest, -1},
		{greatest, greatest - 1, greatest - 1, greatest - 2, -1}, {greatest - 1, greatest - 2, greatest, greatest - 1, 1},
		// The low 32 bits of these products are equal, or have the other order.
		{65536, 1, 65536, 65536, 1}, {65536, 65536, 65536, 1, -1}, {46341, 1, 1, 46341, 1}, {1, 46341, 46341, 1, -1},
		{greatest, 3, greatest, 4096, 1}, {4096, greatest, 3, greatest, 1},
	} {
		checkCompare(t, c[0], c[1], c[2], c[3], c[4], api.OK)
	}
}

func TestCompareOfManyQuotients(t *testing.T) {
	for _, a := range parts {
		for _, b := range parts[1:] {
			left := rat(a, b)
			for _, c := range parts {
				for _, d := range parts[1:] {
					checkCompare(t, a, b, c, d, left.Cmp(rat(c, d)), api.OK)
				}
			}
		}
	}
}

func TestCompareRefusesInvalidQuotients(t *testing.T) {
	for _, q := range invalidQuotients() {
		for _, v := range [][2]int{{0, 1}, {0, greatest}, {1, 1}, {3, 7}, {greatest, 1}, {greatest, greatest}} {
			checkCompare(t, q[0], q[1], v[0], v[1], 0, api.ErrArg)
			checkCompare(t, v[0], v[1], q[0], q[1], 0, api.ErrArg)
		}
		checkCompare(t, q[0], q[1], q[0], q[1], 0, api.ErrArg)
		checkCompare(t, q[0], q[1], q[1], q[0], 0, api.ErrArg)
	}
}

// invalidQuotients have one part that is not valid, or both.
func invalidQuotients() [][2]int {
	var list [][2]int
	for _, b := range []int{1, 2, 65536, greatest - 1, greatest} {
		for _, a := range notParts {
			list = append(list, [2]int{a, b})
		}
	}
	for _, b := range notDenominators {
		for _, a := range []int{0, 1, 65536, greatest - 1, greatest} {
			list = append(list, [2]int{a, b})
		}
		for _, a := range notParts {
			list = append(list, [2]int{a, b})
		}
	}
	return list
}

func checkCompare(t *testing.T, a, b, c, d, want int, wantE api.Errno) {
	t.Helper()
	if n, e := ratio.Compare(a, b, c, d); n != want || e != wantE {
		t.Errorf("Compare(%d, %d, %d, %d) = %d, %d, want %d, %d", a, b, c, d, n, e, want, wantE)
	}
}

// P2.1: Score.

func TestScoreExamples(t *testing.T) {
	checkScore(t, 1, 4, 9, 30, 5, api.OK)
	checkScore(t, 0, 4, 0, 4, 4, api.OK)
	checkScore(t, 3, 4, 0, 1, 7, api.OK)
	checkScore(t, 4, 4, 9, 0, 8, api.OK)
	checkScore(t, 0, 2, 0, 2, 2, api.OK)
	checkScore(t, 1, 2, 0, 1, 3, api.OK)
	checkScore(t, 2, 2, 65535, 0, 4, api.OK)
	checkScore(t, 0, 2, 65535, 131072, 2, api.OK)
	checkScore(t, 0, 16, 65535, greatest, 16, api.OK)
	checkScore(t, 1, 16, 65535, 983040, 17, api.OK)
	checkScore(t, 15, 16, 65535, 65536, 31, api.OK)
	checkScore(t, 16, 16, 65535, 0, 32, api.OK)
	checkScore(t, 5, 13, 1000, 8008, 18, api.OK)
}

func TestScoreOfEverySegment(t *testing.T) {
	for blocks := 2; blocks <= 16; blocks++ {
		for live := 0; live <= blocks; live++ {
			for _, age := range []int{0, 1, 2, 15, 16, 255, 4095, 32767, 32768, 65534, 65535} {
				checkScore(t, live, blocks, age, blocks*age+blocks-live*age-live, blocks+live, api.OK)
				over, under, _ := ratio.Score(live, blocks, age)
				checkCompare(t, over, under, over, under, 0, api.OK)
			}
		}
	}
}

func TestScoreRefusesBlocks(t *testing.T) {
	for _, blocks := range append([]int{0, 1, 17, 18, 24, 32, 256, 258, 65536, 65538, greatest}, notParts...) {
		for _, live := range []int{-1, 0, 1, 2, 16, 17, blocks, math.MaxInt, math.MinInt} {
			for _, age := range []int{-1, 0, 65535, 65536, math.MaxInt, math.MinInt} {
				checkScore(t, live, blocks, age, 0, 0, api.ErrArg)
			}
		}
	}
}

func TestScoreRefusesLive(t *testing.T) {
	for blocks := 2; blocks <= 16; blocks++ {
		for _, live := range append([]int{blocks + 1, blocks + 2, 17, 256, 65536, greatest, -blocks, -blocks - 1}, notParts...) {
			for _, age := range []int{-1, 0, 9, 65535, 65536, math.MaxInt} {
				checkScore(t, live, blocks, age, 0, 0, api.ErrArg)
			}
		}
	}
}

func TestScoreRefusesAge(t *testing.T) {
	for _, age := range append([]int{65536, 65537, 131071, 131072, greatest - 1, greatest}, notParts...) {
		for blocks := 2; blocks <= 16; blocks++ {
			for live := 0; live <= blocks; live++ {
				checkScore(t, live, blocks, age, 0, 0, api.ErrArg)
			}
		}
	}
}

func checkScore(t *testing.T, live, blocks, age, over, under int, wantE api.Errno) {
	t.Helper()
	if a, b, e := ratio.Score(live, blocks, age); a != over || b != under || e != wantE {
		t.Errorf("Score(%d, %d, %d) = %d, %d, %d, want %d, %d, %d", live, blocks, age, a, b, e, over, under, wantE)
	}
}

// P2.2: Best.

func TestBestExamples(t *testing.T) {
	for _, c := range []struct {
		over, under []int
		want        int
	}{
		{[]int{0}, []int{1}, 0},
		{[]int{greatest}, []int{greatest}, 0},
		{[]int{0}, []int{greatest}, 0},
		{[]int{1, 2, 4, 1}, []int{2, 3, 6, 2}, 1},
		{[]int{3, 2, 1}, []int{1, 1, 1}, 0},
		{[]int{1, 2, 3}, []int{1, 1, 1}, 2},
		{[]int{1, 1, 1}, []int{3, 1, 2}, 1},
		{[]int{1, 1, 1}, []int{3, 2, 1}, 2},
		{[]int{100, 3, 50}, []int{100, 2, 40}, 1},
		{[]int{0, 1}, []int{1, greatest}, 1},
		{[]int{0, 0, 1, 0}, []int{1, 1, greatest, 1}, 2},
		{[]int{greatest - 1, greatest}, []int{1, 1}, 1},
		{[]int{greatest, greatest - 1}, []int{1, 1}, 0},
		{[]int{greatest - 2, greatest - 1}, []int{greatest - 1, greatest}, 1},
		{[]int{greatest, greatest - 1}, []int{greatest - 1, greatest - 2}, 1},
		{[]int{65536, 65536}, []int{65536, 1}, 1},
	} {
		checkBest(t, c.over, c.under, c.want, api.OK)
	}
}

func TestBestOfEqualQuotientsIsTheFirst(t *testing.T) {
	for _, c := range []struct {
		over, under []int
		want        int
	}{
		{[]int{1, 1}, []int{2, 2}, 0},
		{[]int{1, 2, 3}, []int{2, 4, 6}, 0},
		{[]int{3, 2, 1}, []int{6, 4, 2}, 0},
		{[]int{0, 0, 0}, []int{9, 1, greatest}, 0},
		{[]int{greatest, 1, 2}, []int{greatest, 1, 2}, 0},
		{[]int{1, 524288, greatest}, []int{2, greatest, 1}, 2},
		{[]int{1, 1, 2, 1, 3}, []int{3, 2, 4, 9, 6}, 1},
		{[]int{1, 0, 5, 6, 5, 7}, []int{9, 1, 5, 6, 7, 7}, 2},
		{[]int{524288, greatest, 524288}, []int{1, 2, 1}, 0},
		{[]int{0, 524288, greatest, 524288}, []int{1, 1, 2, 1}, 1},
	} {
		checkBest(t, c.over, c.under, c.want, api.OK)
	}
}

func TestBestOfManyQuotients(t *testing.T) {
	var over, under []int
	for i, a := range parts {
		for j := range parts[1:] {
			// The denominators are mixed, so that the greatest quotient stands at no edge of a row.
			over, under = append(over, a), append(under, parts[1+(i*7+j*5)%(len(parts)-1)])
		}
	}
	for range 5 {
		for from := range over {
			to := min(from+1+from%90, len(over))
			checkBest(t, over[from:to], under[from:to], greatestOf(over[from:to], under[from:to]), api.OK)
		}
		slices.Reverse(over)
		over, under = append(over[100:], over[:100]...), append(under[30:], under[:30]...)
	}
}

func greatestOf(over, under []int) int {
	best := 0
	for i := range over {
		if rat(over[i], under[i]).Cmp(rat(over[best], under[best])) > 0 {
			best = i
		}
	}
	return best
}

func TestBestOfLongSlices(t *testing.T) {
	over, under := ones(4097), ones(4097)
	for _, n := range []int{4095, 4096} {
		checkBest(t, over[:n], under[:n], 0, api.OK)
		for _, at := range []int{0, 1, 255, 256, 257, 2048, n - 2, n - 1} {
			over[at] = 2
			checkBest(t, over[:n], under[:n], at, api.OK)
			over[n-1] = 2
			checkBest(t, over[:n], under[:n], at, api.OK)
			over[at], over[n-1] = 1, 1
		}
	}
	checkBest(t, over, under, 0, api.ErrArg)
	over[0] = 2
	checkBest(t, over, under, 0, api.ErrArg)
	over[0] = -1
	checkBest(t, over, under, 0, api.ErrArg)
	checkBest(t, ones(10000), ones(10000), 0, api.ErrArg)
	checkBest(t, make([]int, 70000), make([]int, 70000), 0, api.ErrArg)
}

func TestBestRefusesEmptySlices(t *testing.T) {
	checkBest(t, nil, nil, 0, api.ErrArg)
	checkBest(t, []int{}, []int{}, 0, api.ErrArg)
	checkBest(t, nil, []int{}, 0, api.ErrArg)
	checkBest(t, []int{}, nil, 0, api.ErrArg)
	checkBest(t, ones(3)[:0], ones(3)[:0], 0, api.ErrArg)
}

func TestBestRefusesUnlikeLengths(t *testing.T) {
	lengths := []int{0, 1, 2, 3, 100, 4095, 4096, 4097, 8192}
	for _, n := range lengths {
		for _, m := range lengths {
			if n != m {
				// The elements beyond the end are there, as spare capacity: they do not count.
				checkBest(t, ones(8192)[:n], ones(8192)[:m], 0, api.ErrArg)
				checkBest(t, ones(n), ones(m), 0, api.ErrArg)
			}
		}
	}
	checkBest(t, nil, []int{1}, 0, api.ErrArg)
	checkBest(t, []int{1}, nil, 0, api.ErrArg)
	checkBest(t, []int{2, 1}, []int{1}, 0, api.ErrArg)
	checkBest(t, []int{2}, []int{1, 0}, 0, api.ErrArg)
}

func TestBestRefusesInvalidQuotients(t *testing.T) {
	for _, q := range invalidQuotients() {
		checkBest(t, []int{q[0]}, []int{q[1]}, 0, api.ErrArg)
		checkBest(t, []int{q[0], q[0]}, []int{q[1], q[1]}, 0, api.ErrArg)
		for _, n := range []int{2, 3, 5} {
			for at := range n {
				// The valid ones are once the least, once equal, once the greatest that there are.
				for _, v := range [][2]int{{0, 1}, {1, 1}, {greatest, 1}} {
					over, under := slices.Repeat([]int{v[0]}, n), slices.Repeat([]int{v[1]}, n)
					over[at], under[at] = q[0], q[1]
					checkBest(t, over, under, 0, api.ErrArg)
				}
			}
		}
	}
}

func TestBestRefusesOneInvalidQuotientAmongMany(t *testing.T) {
	for _, at := range []int{0, 1, 2047, 4094, 4095} {
		over, under := ones(4096), ones(4096)
		over[1000] = 9
		under[at] = 0
		checkBest(t, over, under, 0, api.ErrArg)
		under[at] = 1
		over[at] = greatest + 1
		checkBest(t, over, under, 0, api.ErrArg)
		over[at] = -1
		checkBest(t, over, under, 0, api.ErrArg)
	}
}

func ones(n int) []int { return slices.Repeat([]int{1}, n) }

func checkBest(t *testing.T, over, under []int, want int, wantE api.Errno) {
	t.Helper()
	if n, e := ratio.Best(over, under); n != want || e != wantE {
		t.Errorf("Best(%v, %v) = %d, %d, want %d, %d", brief(over), brief(under), n, e, want, wantE)
	}
}

// brief keeps the failures of long slices readable.
func brief(list []int) []int { return list[:min(len(list), 12)] }

// P1, R4 and R5 for Best, the only function that is given memory.

func TestBestLeavesItsArgumentsAlone(t *testing.T) {
	for _, c := range [][2][]int{
		{{1, 2, 4, 1}, {2, 3, 6, 2}},
		{{9, 8, 7, 7}, {1, 2, 3, 4}},
		{{1, 2, -1, 4}, {2, 3, 4, 5}},
		{{1, 2, 3}, {1, 2}},
		{nil, nil},
	} {
		over, under := withSpare(c[0]), withSpare(c[1])
		wholeOver, wholeUnder := slices.Clone(over[:cap(over)]), slices.Clone(under[:cap(under)])
		first, firstE := ratio.Best(over, under)
		if !slices.Equal(over[:cap(over)], wholeOver) || !slices.Equal(under[:cap(under)], wholeUnder) {
			t.Errorf("Best changed %v, %v to %v, %v", wholeOver, wholeUnder, over[:cap(over)], under[:cap(under)])
		}
		if n, e := ratio.Best(over, under); n != first || e != firstE {
			t.Errorf("Best(%v, %v) returned %d, %d, and then %d, %d", over, under, first, firstE, n, e)
		}
	}
}

func TestBestOfOneSliceTwice(t *testing.T) {
	list := []int{3, 1, 4, 1, 5}
	checkBest(t, list, list, 0, api.OK)
	checkBest(t, list[1:], list[:4], 3, api.OK)
}

// withSpare returns the list with spare capacity behind it, which holds the greatest quotient.
func withSpare(list []int) []int {
	whole := append(slices.Clone(list), greatest, greatest-1, 1, -7)
	return whole[:len(list)]
}
