package chooser_test

import (
	"math"
	"math/big"
	"slices"
	"testing"

	"stopcock/api"
	"stopcock/chooser"
)

// oldest is the greatest valid age, written as a number: a limit that the program misreads shows.
const oldest = 65535

// extremes have low bits that look like a valid number if a conversion cuts them off.
var extremes = []int{
	-1, -2, -6, -16, -256, -256 + 1, 256, 256 + 1, 1 << 16, 1<<16 + 1, 1 << 20, 1<<32 + 1, 1<<32 + 6, -(1 << 32) + 1,
	math.MaxInt32, math.MinInt32, math.MinInt32 + 1, math.MaxInt, math.MaxInt - 1, math.MinInt, math.MinInt + 1, math.MinInt + 6,
}

var (
	small = api.Plat{Segments: 6, Blocks: 2}
	some  = api.Plat{Segments: 6, Blocks: 4}
	great = api.Plat{Segments: 24, Blocks: 16}
)

// geometries are all valid ones.
func geometries() []api.Plat {
	var list []api.Plat
	for segments := 6; segments <= 24; segments++ {
		for blocks := 2; blocks <= 16; blocks++ {
			list = append(list, api.Plat{Segments: segments, Blocks: blocks})
		}
	}
	return list
}

// notGeometries have too few or too many segments or blocks, or both.
func notGeometries() []api.Plat {
	list := []api.Plat{{}, {Segments: 5, Blocks: 1}, {Segments: 25, Blocks: 17}, {Segments: 2, Blocks: 6}}
	for _, n := range append([]int{0, 1, 5, 25, 26}, extremes...) {
		list = append(list, api.Plat{Segments: n, Blocks: 2}, api.Plat{Segments: n, Blocks: 16})
	}
	for _, n := range append([]int{0, 1, 17, 18}, extremes...) {
		list = append(list, api.Plat{Segments: 6, Blocks: n}, api.Plat{Segments: 24, Blocks: n})
	}
	return list
}

// dice returns a function that returns numbers from 0 to n - 1, the same ones in each run.
func dice(seed uint64) func(n int) int {
	return func(n int) int {
		seed = seed*6364136223846793005 + 1442695040888963407
		return int(seed>>33) % n
	}
}

// with returns a copy of a list in which one number is another.
func with(list []int, index, n int) []int {
	list = slices.Clone(list)
	list[index] = n
	return list
}

// pickOf is a reference for Pick, with exact fractions; there is no candidate if it returns -1.
func pickOf(p api.Plat, live, age []int, but []int) int {
	best, greatest := -1, new(big.Rat)
	for segment := range p.Segments {
		if slices.Contains(but, segment) || live[segment] == 0 || live[segment] == p.Blocks {
			continue
		}
		free, all := int64(p.Blocks-live[segment]), int64(p.Blocks+live[segment])
		score := big.NewRat(free*(int64(age[segment])+1), all)
		// All scores of candidates are above 0.
		if score.Cmp(greatest) > 0 {
			best, greatest = segment, score
		}
	}
	return best
}

// check checks Pick against the reference.
func check(t *testing.T, p api.Plat, live, age []int, but ...int) {
	t.Helper()
	want, wantE := pickOf(p, live, age, but), api.OK
	if want < 0 {
		want, wantE = 0, api.ErrNone
	}
	checkPick(t, p, live, age, but, want, wantE)
}

func checkPick(t *testing.T, p api.Plat, live, age, but []int, want int, wantE api.Errno) {
	t.Helper()
	if n, e := chooser.Pick(p, live, age, but...); n != want || e != wantE {
		t.Fatalf("Pick(%v, %v, %v, %v) = %d, %d, want %d, %d", p, live, age, but, n, e, want, wantE)
	}
}

func checkGain(t *testing.T, p api.Plat, live []int, segment, want int, wantE api.Errno) {
	t.Helper()
	if n, e := chooser.Gain(p, live, segment); n != want || e != wantE {
		t.Fatalf("Gain(%v, %v, %d) = %d, %d, want %d, %d", p, live, segment, n, e, want, wantE)
	}
}

// checkLiveRefused checks that both functions return ErrArg for that p and live, with valid ages as with others.
func checkLiveRefused(t *testing.T, p api.Plat, live []int) {
	t.Helper()
	for _, age := range [][]int{nil, make([]int, len(live)), make([]int, 6), make([]int, 24), slices.Repeat([]int{oldest + 1}, 6)} {
		for _, but := range [][]int{nil, {0, 1, 2, 3, 4, 5}, {-1, 7, 7, 24}} {
			checkPick(t, p, live, age, but, 0, api.ErrArg)
		}
	}
	for _, segment := range []int{0, 5, 6, -1, 24, math.MaxInt, math.MinInt} {
		checkGain(t, p, live, segment, 0, api.ErrArg)
	}
}

// P12.1: Pick

func TestPickWrittenOut(t *testing.T) {
	for _, c := range []struct {
		live, age, but []int
		want           int
	}{
		{[]int{3, 2, 1, 2, 3, 3}, []int{0, 0, 0, 0, 0, 0}, nil, 2},
		// Neither a free segment nor a full one is picked, however old it is.
		{[]int{0, 4, 3, 0, 4, 0}, []int{oldest, oldest, 0, oldest, oldest, oldest}, nil, 2},
		// Scores 9/7, 8/6, 5/5, 3/5: what is old is picked though it has less to gain.
		{[]int{3, 2, 1, 1, 0, 4}, []int{8, 3, 1, 0, 0, 0}, nil, 1},
		{[]int{3, 2, 1, 1, 0, 4}, []int{9, 3, 1, 0, 0, 0}, nil, 0},
		{[]int{3, 2, 1, 1, 0, 4}, []int{9, 3, 1, 0, 0, 0}, []int{0}, 1},
		{[]int{3, 2, 1, 1, 0, 4}, []int{9, 3, 1, 0, 0, 0}, []int{1, 0}, 2},
		{[]int{3, 2, 1, 1, 0, 4}, []int{9, 3, 1, 0, 0, 0}, []int{0, 2, 1}, 3},
		// Scores 1/7 (age 0) and 65536/7 (the greatest age).
		{[]int{3, 4, 4, 4, 4, 3}, []int{0, 0, 0, 0, 0, oldest}, nil, 5},
		{[]int{3, 4, 4, 4, 4, 3}, []int{oldest, 0, 0, 0, 0, 0}, []int{0}, 5},
		{[]int{1, 4, 4, 4, 4, 3}, []int{0, 0, 0, 0, 0, oldest}, nil, 5},
	} {
		checkPick(t, some, c.live, c.age, c.but, c.want, api.OK)
	}
}

// Of equal scores the first is picked, also if the blocks and the ages of the segments differ.
func TestPickFirstOfEqual(t *testing.T) {
	// All scores are 3: 3*5/5, 2*9/6, 1*21/7.
	live, age := []int{4, 1, 2, 3, 1, 2}, []int{0, 4, 8, 20, 4, 8}
	checkPick(t, some, live, age, nil, 1, api.OK)
	checkPick(t, some, live, age, []int{1}, 2, api.OK)
	checkPick(t, some, live, age, []int{2, 1}, 3, api.OK)
	checkPick(t, some, live, age, []int{1, 2, 3}, 4, api.OK)
	slices.Reverse(live)
	slices.Reverse(age)
	checkPick(t, some, live, age, nil, 0, api.OK)
	checkPick(t, some, live, age, []int{0}, 1, api.OK)
	for _, p := range geometries() {
		for n := range p.Blocks + 1 {
			check(t, p, slices.Repeat([]int{n}, p.Segments), slices.Repeat([]int{oldest}, p.Segments))
		}
	}
}

// All live counts of the smallest geometry, with each set of segments left out.
func TestPickOfAllSmall(t *testing.T) {
	ages := [][]int{make([]int, 6), {0, 1, 2, 3, 4, 5}, {5, 5, 3, 3, 1, 1}, {0, oldest, 0, oldest, 0, 1}}
	var buts [][]int
	for set := range 1 << 6 {
		var but []int
		for segment := range 6 {
			if set>>segment&1 != 0 {
				but = append(but, segment)
			}
		}
		buts = append(buts, but)
	}
	for number := range 3 * 3 * 3 * 3 * 3 * 3 {
		var live []int
		for range 6 {
			live = append(live, number%3)
			number /= 3
		}
		for i, but := range buts {
			check(t, small, live, ages[i%len(ages)], but...)
		}
		for _, age := range ages {
			check(t, small, live, age)
		}
	}
}

// Each count of live blocks in each segment of each geometry, alone and beside segments that are no candidates.
func TestPickOfOneCandidate(t *testing.T) {
	for _, p := range geometries() {
		free, full := make([]int, p.Segments), slices.Repeat([]int{p.Blocks}, p.Segments)
		age := slices.Repeat([]int{oldest}, p.Segments)
		for segment := range p.Segments {
			for n := range p.Blocks + 1 {
				want, wantE := segment, api.OK
				if n == 0 || n == p.Blocks {
					want, wantE = 0, api.ErrNone
				}
				for _, live := range [][]int{with(free, segment, n), with(full, segment, n)} {
					checkPick(t, p, live, with(age, segment, 0), nil, want, wantE)
					checkPick(t, p, live, age, []int{segment}, 0, api.ErrNone)
				}
			}
		}
	}
}

// Scores that are close to each other, or equal, in both orders.
func TestPickOfCloseScores(t *testing.T) {
	p := api.Plat{Segments: 6, Blocks: 16}
	live := []int{16, 1, 0, 0, 0, 3}
	swapped := []int{16, 3, 0, 0, 0, 1}
	for a := 40000; a <= 50000; a++ {
		// The scores are 15*(a+1)/17 and 13*(b+1)/19.
		b := 285*(a+1)/221 - 1
		for _, b := range []int{b, b + 1} {
			check(t, p, live, []int{0, a, 0, 0, 0, b})
			check(t, p, swapped, []int{0, b, 0, 0, 0, a})
		}
	}
}

func TestPickOfMany(t *testing.T) {
	roll := dice(1)
	for range 20000 {
		p := api.Plat{Segments: 6 + roll(19), Blocks: 2 + roll(15)}
		limit := []int{1, 3, 40, oldest + 1}[roll(4)]
		var live, age, but []int
		for range p.Segments {
			live, age = append(live, roll(p.Blocks+1)), append(age, roll(limit))
		}
		for range roll(30) {
			but = append(but, roll(30)-3)
		}
		check(t, p, live, age)
		check(t, p, live, age, but...)
	}
}

func TestPickIgnoresNumbersOfNoSegment(t *testing.T) {
	live, age := []int{4, 3, 1, 0, 2, 4}, make([]int, 6)
	for _, but := range [][]int{{}, {6}, {23, 24}, {9, 3, 0, 5}, extremes} {
		checkPick(t, some, live, age, but, 2, api.OK)
	}
	for _, n := range extremes {
		checkPick(t, some, live, age, []int{n}, 2, api.OK)
		checkPick(t, some, live, age, []int{n, 2, n}, 4, api.OK)
		checkPick(t, some, live, age, []int{2, n, 4, n}, 1, api.OK)
	}
	// Longer than any other list may be, with the number that counts at the end.
	long := append(slices.Repeat([]int{9}, 5000), 2)
	checkPick(t, some, live, age, long, 4, api.OK)
	checkPick(t, some, live, age, slices.Repeat([]int{2}, 5000), 4, api.OK)
}

func TestPickWithoutCandidate(t *testing.T) {
	age := []int{0, 1, 2, 3, 4, oldest}
	for _, live := range [][]int{make([]int, 6), {4, 4, 4, 4, 4, 4}, {4, 0, 0, 4, 0, 4}} {
		checkPick(t, some, live, age, nil, 0, api.ErrNone)
		checkPick(t, some, live, age, []int{0, 7}, 0, api.ErrNone)
	}
	live := []int{3, 2, 1, 2, 3, 1}
	checkPick(t, some, live, age, []int{5, 4, 3, 2, 1, 0}, 0, api.ErrNone)
	checkPick(t, some, live, age, []int{0, 1, 2, 3, 4, 5, 0, 99}, 0, api.ErrNone)
	checkPick(t, some, live, age, []int{0, 1, 2, 4, 5}, 3, api.OK)
}

// An age that is not valid is ErrArg whether its segment is a candidate or not, and also if there is no candidate.
func TestPickRefusesAges(t *testing.T) {
	for _, live := range [][]int{{3, 2, 1, 0, 4, 1}, {0, 4, 0, 4, 0, 4}, {1, 1, 1, 1, 1, 1}} {
		for _, but := range [][]int{nil, {0, 3}, {0, 1, 2, 3, 4, 5}, {-1, 24}} {
			for segment := range 6 {
				check(t, some, live, with(make([]int, 6), segment, oldest), but...)
				for _, n := range append([]int{oldest + 1, oldest + 2}, extremes...) {
					// 256 and 257 are ages.
					if n < 0 || n > oldest {
						checkPick(t, some, live, with(make([]int, 6), segment, n), but, 0, api.ErrArg)
					}
				}
			}
			for _, n := range []int{0, 1, 4, 5, 7, 23, 24, 5000} {
				checkPick(t, some, live, make([]int, n), but, 0, api.ErrArg)
			}
		}
	}
	for _, p := range geometries() {
		live := slices.Repeat([]int{1}, p.Segments)
		check(t, p, live, slices.Repeat([]int{oldest}, p.Segments))
		checkPick(t, p, live, slices.Repeat([]int{oldest + 1}, p.Segments), nil, 0, api.ErrArg)
		checkPick(t, p, live, make([]int, p.Segments-1), nil, 0, api.ErrArg)
		checkPick(t, p, live, make([]int, p.Segments+1), nil, 0, api.ErrArg)
	}
}

// P12.2: Gain

func TestGainWrittenOut(t *testing.T) {
	live := []int{4, 3, 1, 0, 2, 4}
	for segment, want := range []int{0, 1, 3, 4, 2, 0} {
		checkGain(t, some, live, segment, want, api.OK)
	}
}

func TestGainOfEverySegment(t *testing.T) {
	for _, p := range geometries() {
		for segment := range p.Segments {
			for n := range p.Blocks + 1 {
				checkGain(t, p, with(make([]int, p.Segments), segment, n), segment, p.Blocks-n, api.OK)
				checkGain(t, p, with(slices.Repeat([]int{p.Blocks}, p.Segments), segment, n), segment, p.Blocks-n, api.OK)
			}
		}
	}
}

func TestGainRefusesSegments(t *testing.T) {
	for _, p := range geometries() {
		live := slices.Repeat([]int{1}, p.Segments)
		for _, segment := range append([]int{p.Segments, p.Segments + 1, 24, 25}, extremes...) {
			checkGain(t, p, live, segment, 0, api.ErrArg)
		}
	}
}

// P12.1 and P12.2: what both functions refuse

func TestGeometriesRefused(t *testing.T) {
	for _, p := range notGeometries() {
		for _, n := range []int{0, 5, 6, 24, 25} {
			checkLiveRefused(t, p, make([]int, n))
			checkLiveRefused(t, p, slices.Repeat([]int{1}, n))
		}
		if p.Segments > 0 && p.Segments < 5000 {
			live := slices.Repeat([]int{1}, p.Segments)
			checkPick(t, p, live, make([]int, p.Segments), nil, 0, api.ErrArg)
			checkGain(t, p, live, 0, 0, api.ErrArg)
		}
	}
}

// Each segment in turn has a wrong count, also one that is not asked for.
func TestCountsRefused(t *testing.T) {
	for _, p := range geometries() {
		live, age := slices.Repeat([]int{1}, p.Segments), make([]int, p.Segments)
		checkPick(t, p, live, age, nil, 0, api.OK)
		for segment := range p.Segments {
			for _, n := range append([]int{p.Blocks + 1, p.Blocks + 2, 17}, extremes...) {
				wrong := with(live, segment, n)
				checkPick(t, p, wrong, age, nil, 0, api.ErrArg)
				checkPick(t, p, wrong, age, []int{segment}, 0, api.ErrArg)
				checkGain(t, p, wrong, segment, 0, api.ErrArg)
				checkGain(t, p, wrong, (segment+1)%p.Segments, 0, api.ErrArg)
			}
		}
	}
	for segment := range 6 {
		checkLiveRefused(t, small, with(make([]int, 6), segment, 3))
		checkLiveRefused(t, small, with(make([]int, 6), segment, -1))
	}
}

func TestNumbersOfCountsRefused(t *testing.T) {
	for _, p := range geometries() {
		for _, n := range []int{0, 1, p.Segments - 1, p.Segments + 1, 2 * p.Segments, 5000} {
			for _, count := range []int{0, 1, p.Blocks} {
				live := slices.Repeat([]int{count}, n)
				checkPick(t, p, live, make([]int, p.Segments), nil, 0, api.ErrArg)
				checkPick(t, p, live, make([]int, n), nil, 0, api.ErrArg)
				checkGain(t, p, live, 0, 0, api.ErrArg)
				checkGain(t, p, live, p.Segments-1, 0, api.ErrArg)
				checkGain(t, p, live, n-1, 0, api.ErrArg)
			}
		}
	}
}

// Rules R4 and R5

// The spare capacity of the arguments stays as it is as well.
func TestArgumentsUnchanged(t *testing.T) {
	roomy := func(list ...int) []int { return append(make([]int, 0, 64), list...) }
	live, age, but := roomy(4, 3, 1, 0, 2, 4), roomy(5, 3, 0, 9, 7, 1), roomy(7, 4, 7, -3)
	lists := [][]int{live[:64], age[:64], but[:64]}
	var before [][]int
	for _, list := range lists {
		before = append(before, slices.Clone(list))
	}
	chooser.Pick(some, live, age, but...)
	chooser.Pick(some, live, age, age...)
	chooser.Pick(small, live, age, but...)
	chooser.Pick(some, live, age[:5], but...)
	chooser.Gain(some, live, 2)
	chooser.Gain(some, live, 9)
	chooser.Gain(small, live, 2)
	if !slices.EqualFunc(lists, before, slices.Equal) {
		t.Errorf("the arguments are %v now, were %v", lists, before)
	}
}

// The same call has the same results each time, whatever is called between.
func TestAlwaysSame(t *testing.T) {
	live, age := []int{4, 3, 1, 0, 2, 4}, make([]int, 6)
	for range 100 {
		checkPick(t, some, live, age, nil, 2, api.OK)
		checkPick(t, some, live, age, []int{2}, 4, api.OK)
		checkPick(t, small, live, age, nil, 0, api.ErrArg)
		checkPick(t, great, make([]int, 24), make([]int, 24), nil, 0, api.ErrNone)
		checkGain(t, some, live, 2, 3, api.OK)
	}
}
