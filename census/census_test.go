package census_test

import (
	"math"
	"slices"
	"testing"

	"stopcock/api"
	"stopcock/census"
)

// negativeZero is written as a call: the constant -0.0 is a positive zero.
var negativeZero = math.Copysign(0, -1)

// extremes have low bits that look like a valid number if a conversion cuts them off.
var extremes = []int{
	-1, -2, -6, -16, -256, -256 + 6, 256, 256 + 6, 1<<16 + 6, 1<<32 + 2, 1<<32 + 6, -(1 << 32) + 6,
	math.MaxInt32, math.MinInt32, math.MinInt32 + 6, math.MaxInt, math.MaxInt - 1, math.MinInt, math.MinInt + 1, math.MinInt + 6,
}

// notParts make a number no place, as its real and as its imaginary part.
var notParts = []float64{
	math.NaN(), math.Inf(1), math.Inf(-1), -1, -2, -0.5, 0.5, 1.5, math.SmallestNonzeroFloat64,
	math.Nextafter(1, 0), 24, 256, 1<<32 + 3, 1 << 63, -(1 << 63), math.MaxFloat64,
}

var (
	small = api.Plat{Segments: 6, Blocks: 2}
	great = api.Plat{Segments: 24, Blocks: 16}
)

func place(segment, slot int) complex128 { return complex(float64(segment), float64(slot)) }

// allPlaces are all places in increasing order.
func allPlaces() []complex128 {
	var list []complex128
	for segment := range 24 {
		for slot := range 16 {
			list = append(list, place(segment, slot))
		}
	}
	return list
}

// geometries are all valid ones.
func geometries() []api.Plat {
	var list []api.Plat
	for segments := 6; segments <= 24; segments++ {
		for blocks := 2; blocks <= 16; blocks++ {
			list = append(list, api.Plat{Segments: segments, Blocks: blocks})
		}
	}
	return list
}

// notGeometries have too few or too many segments or blocks, or both.
func notGeometries() []api.Plat {
	list := []api.Plat{{}, {Segments: 5, Blocks: 1}, {Segments: 25, Blocks: 17}, {Segments: 2, Blocks: 6}}
	for _, n := range append([]int{0, 1, 5, 25, 26}, extremes...) {
		list = append(list, api.Plat{Segments: n, Blocks: 2}, api.Plat{Segments: n, Blocks: 16})
	}
	for _, n := range append([]int{0, 1, 17, 18}, extremes...) {
		list = append(list, api.Plat{Segments: 6, Blocks: n}, api.Plat{Segments: 24, Blocks: n})
	}
	return list
}

// unplaced returns the places of so many blocks that have none.
func unplaced(size int) []complex128 {
	return slices.Repeat([]complex128{-1}, size)
}

// volumes returns a state with a volume or, at odd ids, a snapshot for each list of places that is not empty.
func volumes(lists ...[]complex128) api.State {
	var s api.State
	for vol, places := range lists {
		if len(places) > 0 {
			s.Entries[vol] = api.Entry{Kind: 1 + vol%2, Size: len(places)}
			s.Places[vol] = slices.Clone(places)
		}
	}
	return s
}

// spread returns a state of n blocks, the first ones of segments of so many slots.
func spread(n, slots int) api.State {
	var places []complex128
	for i := range n {
		places = append(places, place(i/slots, i%slots))
	}
	return volumes(slices.Collect(slices.Chunk(places, 32))...)
}

// shared is a state with two free ids, where some blocks share places; six places are live.
func shared() api.State {
	return volumes(
		[]complex128{place(5, 2), -1, place(0, 3)},
		[]complex128{place(5, 2), place(5, 1), -1, place(0, 3)},
		nil,
		[]complex128{-1},
		[]complex128{place(0, 3), place(0, 3), place(4, 15)},
		nil,
		[]complex128{place(23, 15)},
		[]complex128{place(5, 2), 0},
	)
}

// notSound returns states that no deltas lead to.
func notSound() []api.State {
	var list []api.State
	change := func(f func(s *api.State)) {
		s := shared()
		f(&s)
		list = append(list, s)
	}
	for vol := range 8 {
		for _, kind := range append([]int{3, 4}, extremes...) {
			change(func(s *api.State) { s.Entries[vol].Kind = kind })
		}
		for _, size := range append([]int{33, 64}, extremes...) {
			change(func(s *api.State) { s.Entries[vol].Size = size })
		}
		change(func(s *api.State) { s.Entries[vol] = api.Entry{Kind: 1}; s.Places[vol] = nil })
		change(func(s *api.State) { s.Entries[vol] = api.Entry{Size: 1}; s.Places[vol] = unplaced(1) })
		change(func(s *api.State) { s.Entries[vol] = api.Entry{Kind: 2, Size: 33}; s.Places[vol] = unplaced(33) })
		change(func(s *api.State) { s.Places[vol] = append(s.Places[vol], place(1, 1)) })
		for _, x := range notParts {
			for _, z := range []complex128{complex(x, 1), complex(1, x), complex(-1, x+16)} {
				change(func(s *api.State) { s.Entries[vol] = api.Entry{Kind: 2, Size: 2}; s.Places[vol] = []complex128{-1, z} })
			}
		}
	}
	return list
}

// dice returns a function that returns numbers from 0 to n - 1, the same ones in each run.
func dice(seed uint64) func(n int) int {
	return func(n int) int {
		seed = seed*6364136223846793005 + 1442695040888963407
		return int(seed>>33) % n
	}
}

// thrown returns a sound state with places in some segments and slots, and a geometry in which they mostly exist.
func thrown(roll func(n int) int) (api.State, api.Plat) {
	p := api.Plat{Segments: 6 + roll(19), Blocks: 2 + roll(15)}
	segments, slots := 1+roll(p.Segments), 1+roll(p.Blocks)
	if roll(8) == 0 {
		segments, slots = 24, 16
	}
	var s api.State
	for vol := range 8 {
		kind := roll(3)
		if kind == 0 {
			continue
		}
		s.Entries[vol] = api.Entry{Kind: kind, Size: 1 + roll(32)}
		s.Places[vol] = unplaced(s.Entries[vol].Size)
		for block := range s.Places[vol] {
			if roll(4) != 0 {
				s.Places[vol][block] = place(roll(segments), roll(slots))
			}
		}
	}
	return s, p
}

// identical also tells negative zeros from 0.
func identical(a, b complex128) bool {
	return math.Float64bits(real(a)) == math.Float64bits(real(b)) && math.Float64bits(imag(a)) == math.Float64bits(imag(b))
}

// hereOf is a reference for Here: it looks for each slot in all blocks.
func hereOf(s api.State, p api.Plat, segment int) []complex128 {
	var here []complex128
	for slot := range p.Blocks {
		for _, places := range s.Places {
			if slices.Contains(places, place(segment, slot)) {
				here = append(here, place(segment, slot))
				break
			}
		}
	}
	return here
}

// exists reports whether a state that is sound has all its places in p.
func exists(s api.State, p api.Plat) bool {
	for _, places := range s.Places {
		for _, z := range places {
			if z != -1 && (int(real(z)) >= p.Segments || int(imag(z)) >= p.Blocks) {
				return false
			}
		}
	}
	return true
}

// check checks all functions for a sound state whose places exist in p.
func check(t *testing.T, s api.State, p api.Plat) {
	t.Helper()
	var counts, free []int
	for segment := range p.Segments {
		want := hereOf(s, p, segment)
		checkHere(t, s, p, segment, want)
		counts = append(counts, len(want))
		if len(want) == 0 {
			free = append(free, segment)
		}
	}
	checkCounts(t, s, p, counts)
	checkFree(t, s, p, nil, free)
}

func checkCounts(t *testing.T, s api.State, p api.Plat, want []int) {
	t.Helper()
	if counts, e := census.Counts(s, p); !slices.Equal(counts, want) || e != api.OK {
		t.Fatalf("Counts(%v, %v) = %v, %d, want %v", s, p, counts, e, want)
	}
}

func checkFree(t *testing.T, s api.State, p api.Plat, but, want []int) {
	t.Helper()
	if free, e := census.Free(s, p, but...); !slices.Equal(free, want) || e != api.OK {
		t.Fatalf("Free(%v, %v, %v) = %v, %d, want %v", s, p, but, free, e, want)
	}
}

func checkHere(t *testing.T, s api.State, p api.Plat, segment int, want []complex128) {
	t.Helper()
	if here, e := census.Here(s, p, segment); !slices.EqualFunc(here, want, identical) || e != api.OK {
		t.Fatalf("Here(%v, %v, %d) = %v, %d, want %v", s, p, segment, here, e, want)
	}
}

// checkRefused checks that all functions return that error, Here with segments that exist and others.
func checkRefused(t *testing.T, s api.State, p api.Plat, want api.Errno) {
	t.Helper()
	if counts, e := census.Counts(s, p); len(counts) != 0 || e != want {
		t.Fatalf("Counts(%v, %v) = %v, %d, want error %d", s, p, counts, e, want)
	}
	for _, but := range [][]int{nil, {0}, {-1, 7, 7, 24}} {
		if free, e := census.Free(s, p, but...); len(free) != 0 || e != want {
			t.Fatalf("Free(%v, %v, %v) = %v, %d, want error %d", s, p, but, free, e, want)
		}
	}
	for _, segment := range []int{0, 5, -1, 24, math.MaxInt, math.MinInt} {
		checkHereRefused(t, s, p, segment, want)
	}
}

func checkHereRefused(t *testing.T, s api.State, p api.Plat, segment int, want api.Errno) {
	t.Helper()
	if here, e := census.Here(s, p, segment); len(here) != 0 || e != want {
		t.Fatalf("Here(%v, %v, %d) = %v, %d, want error %d", s, p, segment, here, e, want)
	}
}

// P11.1: Counts, Free, Here

func TestWrittenOut(t *testing.T) {
	s := shared()
	counts := make([]int, 24)
	counts[0], counts[4], counts[5], counts[23] = 2, 1, 2, 1
	checkCounts(t, s, great, counts)
	free := []int{1, 2, 3, 6, 7, 8, 9, 10, 11, 12, 13, 14, 15, 16, 17, 18, 19, 20, 21, 22}
	checkFree(t, s, great, nil, free)
	checkFree(t, s, great, []int{22, 4, 1, 9, 9}, []int{2, 3, 6, 7, 8, 10, 11, 12, 13, 14, 15, 16, 17, 18, 19, 20, 21})
	checkHere(t, s, great, 0, []complex128{0, 3i})
	checkHere(t, s, great, 1, nil)
	checkHere(t, s, great, 4, []complex128{4 + 15i})
	checkHere(t, s, great, 5, []complex128{5 + 1i, 5 + 2i})
	checkHere(t, s, great, 23, []complex128{23 + 15i})
}

// All of a sound state without places is free, and there is one number for each segment.
func TestNothingLive(t *testing.T) {
	empty := api.State{}
	for vol := range empty.Places {
		empty.Places[vol] = []complex128{}
	}
	for _, p := range geometries() {
		for _, s := range []api.State{{}, empty, volumes(unplaced(1)), volumes(unplaced(32), unplaced(32), nil, unplaced(7))} {
			check(t, s, p)
		}
		checkCounts(t, api.State{}, p, make([]int, p.Segments))
	}
}

// Each place there is, in each geometry: it is counted in its segment, or ErrRange if it does not exist.
func TestEachPlace(t *testing.T) {
	for _, p := range geometries() {
		for i, z := range allPlaces() {
			lists := make([][]complex128, 8)
			lists[i%8] = unplaced(1 + i%32)
			lists[i%8][i%32] = z
			s := volumes(lists...)
			if !exists(s, p) {
				checkRefused(t, s, p, api.ErrRange)
				continue
			}
			counts, segment := make([]int, p.Segments), i/16
			counts[segment] = 1
			checkCounts(t, s, p, counts)
			checkHere(t, s, p, segment, []complex128{z})
			checkHere(t, s, p, (segment+1)%p.Segments, nil)
		}
	}
}

// One place that does not exist among places that do, the first or the last of all.
func TestOnePlaceDoesNotExist(t *testing.T) {
	for _, z := range []complex128{2i, 15i, 5 + 2i, 6, 6 + 1i, 23 + 15i} {
		checkRefused(t, volumes([]complex128{0, 1i, 1, z, 5}, unplaced(3)), small, api.ErrRange)
		checkRefused(t, volumes(nil, nil, []complex128{z, 4}, []complex128{0, 1i}), small, api.ErrRange)
	}
}

// A place counts once, however many blocks of one volume, or of volumes and snapshots, have it.
func TestSharedPlacesCountOnce(t *testing.T) {
	var lists [][]complex128
	for range 8 {
		lists = append(lists, slices.Repeat([]complex128{place(3, 1)}, 32))
	}
	s := volumes(lists...)
	checkCounts(t, s, small, []int{0, 0, 0, 1, 0, 0})
	checkFree(t, s, small, nil, []int{0, 1, 2, 4, 5})
	checkHere(t, s, small, 3, []complex128{place(3, 1)})
	for vol := range 8 {
		for kind := 1; kind <= 2; kind++ {
			s := api.State{}
			s.Entries[vol], s.Places[vol] = api.Entry{Kind: kind, Size: 2}, []complex128{-1, place(2, 0)}
			checkCounts(t, s, small, []int{0, 0, 1, 0, 0, 0})
		}
	}
}

// More live places than the capacity are no error, up to all segments full.
func TestAboveCapacity(t *testing.T) {
	for _, p := range geometries() {
		capacity, all := (p.Segments-4)*p.Blocks, p.Segments*p.Blocks
		for _, n := range []int{capacity, capacity + 1, all} {
			if n <= 256 {
				check(t, spread(n, p.Blocks), p)
			}
		}
	}
	checkCounts(t, spread(12, 2), small, []int{2, 2, 2, 2, 2, 2})
	checkFree(t, spread(12, 2), small, nil, nil)
	checkHere(t, spread(12, 2), small, 5, []complex128{5, 5 + 1i})
	checkFree(t, spread(5, 2), small, []int{4}, []int{3, 5})
}

func TestManyStates(t *testing.T) {
	roll := dice(1)
	for range 1000 {
		s, p := thrown(roll)
		if !exists(s, p) {
			checkRefused(t, s, p, api.ErrRange)
			continue
		}
		check(t, s, p)
	}
}

// The same call has the same results each time, whatever is called between.
func TestAlwaysSame(t *testing.T) {
	for range 100 {
		check(t, shared(), great)
		checkRefused(t, shared(), small, api.ErrRange)
	}
}

func TestNegativeZerosAreZero(t *testing.T) {
	s := volumes(
		[]complex128{complex(negativeZero, 0), complex(-1, negativeZero), complex(negativeZero, 1)},
		[]complex128{0, complex(3, negativeZero)},
		[]complex128{3, complex(negativeZero, negativeZero), complex(0, 1)},
	)
	check(t, s, small)
	checkCounts(t, s, small, []int{2, 0, 0, 1, 0, 0})
	checkHere(t, s, small, 0, []complex128{0, 1i})
	checkHere(t, s, small, 3, []complex128{3})
}

// Each set of segments of the smallest geometry is left out, in both orders, with one of them twice.
func TestFreeLeavesOut(t *testing.T) {
	s := volumes([]complex128{1, -1, 4 + 1i})
	for set := range 1 << 6 {
		var but, want []int
		for segment := range 6 {
			if set>>segment&1 != 0 {
				but = append(but, segment)
			} else if segment != 1 && segment != 4 {
				want = append(want, segment)
			}
		}
		checkFree(t, s, small, but, want)
		slices.Reverse(but)
		checkFree(t, s, small, but, want)
		if len(but) > 0 {
			checkFree(t, s, small, append(but, but[0]), want)
		}
	}
}

func TestFreeIgnoresNumbersOfNoSegment(t *testing.T) {
	s, all := volumes([]complex128{1}), []int{0, 2, 3, 4, 5}
	checkFree(t, s, small, []int{}, all)
	checkFree(t, s, small, []int{6, 7, 23, 24}, all)
	for _, n := range extremes {
		checkFree(t, s, small, []int{n}, all)
		checkFree(t, s, small, []int{n, 3, n}, []int{0, 2, 4, 5})
	}
	checkFree(t, s, small, extremes, all)
	// Longer than any other list may be, with the number that counts at the end.
	long := append(slices.Repeat([]int{9}, 5000), 5)
	checkFree(t, s, small, long, []int{0, 2, 3, 4})
}

func TestHereRefusesSegments(t *testing.T) {
	for _, p := range geometries() {
		for _, s := range []api.State{{}, volumes([]complex128{0, 5 + 1i})} {
			checkHere(t, s, p, p.Segments-1, hereOf(s, p, p.Segments-1))
			for _, segment := range append([]int{p.Segments, p.Segments + 1, 24, 25}, extremes...) {
				checkHereRefused(t, s, p, segment, api.ErrArg)
			}
		}
	}
	// Above the capacity there is still no such segment.
	checkHereRefused(t, spread(12, 2), small, 6, api.ErrArg)
	checkHereRefused(t, spread(12, 2), small, -1, api.ErrArg)
}

// A geometry that is not valid is ErrArg whatever the state is.
func TestGeometriesRefusedFirst(t *testing.T) {
	far := volumes([]complex128{23 + 15i})
	for _, p := range notGeometries() {
		for _, s := range append(notSound()[:3], api.State{}, far, spread(256, 16)) {
			checkRefused(t, s, p, api.ErrArg)
		}
	}
}

func TestStatesRefused(t *testing.T) {
	for _, s := range notSound() {
		checkRefused(t, s, great, api.ErrForm)
		// Some places of these states do not exist here: ErrForm comes before ErrRange, and before Here's ErrArg.
		checkRefused(t, s, small, api.ErrForm)
	}
}

// A place that does not exist is ErrRange also above the capacity, and before Here's ErrArg.
func TestErrRangeAboveCapacity(t *testing.T) {
	for _, z := range []complex128{2i, 6, 23 + 15i} {
		s := spread(12, 2)
		s.Entries[7], s.Places[7] = api.Entry{Kind: 1, Size: 1}, []complex128{z}
		checkRefused(t, s, small, api.ErrRange)
	}
}

// roomy returns a copy of shared, all of whose lists have spare capacity.
func roomy() api.State {
	s := shared()
	for vol, places := range s.Places {
		s.Places[vol] = append(make([]complex128, 0, 64), places...)
	}
	return s
}

// checkUnchanged also looks at the spare capacity of a state that roomy returned.
func checkUnchanged(t *testing.T, s api.State) {
	t.Helper()
	want := roomy()
	for vol, places := range s.Places {
		if !slices.EqualFunc(places[:64], want.Places[vol][:64], identical) || s.Entries != want.Entries {
			t.Fatalf("the argument is %v now", s)
		}
	}
}

// spoil writes to all memory of a list.
func spoil[T any](list []T, with T) {
	list = list[:cap(list)]
	for i := range list {
		list[i] = with
	}
}

func TestArgumentsUnchanged(t *testing.T) {
	s := roomy()
	but := append(make([]int, 0, 64), 7, 2, 7, -3)
	before := slices.Clone(but[:64])
	counts, _ := census.Counts(s, great)
	free, _ := census.Free(s, great, but...)
	here, _ := census.Here(s, great, 5)
	census.Counts(s, small)
	census.Free(s, small, but...)
	census.Here(s, small, 99)
	checkUnchanged(t, s)
	spoil(counts, 9)
	spoil(free, 9)
	spoil(here, 9)
	checkUnchanged(t, s)
	if !slices.Equal(but[:64], before) {
		t.Errorf("but is %v now, was %v", but[:64], before)
	}
}

// No result shares memory with a later one, and a result stays as it is when its arguments change.
func TestResultsInMemoryOfTheirOwn(t *testing.T) {
	s, but := shared(), []int{3, 9}
	counts, _ := census.Counts(s, great)
	free, _ := census.Free(s, great, but...)
	here, _ := census.Here(s, great, 5)
	wantCounts, wantFree, wantHere := slices.Clone(counts), slices.Clone(free), slices.Clone(here)
	for _, places := range s.Places {
		spoil(places, 9+9i)
	}
	spoil(but, 5)
	for range 2 {
		again, _ := census.Counts(shared(), great)
		spoil(again, 7)
		again, _ = census.Free(shared(), great, 3, 9)
		spoil(again, 7)
		there, _ := census.Here(shared(), great, 5)
		spoil(there, 7)
	}
	if !slices.Equal(counts, wantCounts) || !slices.Equal(free, wantFree) || !slices.Equal(here, wantHere) {
		t.Errorf("the results are %v, %v, %v now, were %v, %v, %v", counts, free, here, wantCounts, wantFree, wantHere)
	}
	check(t, shared(), great)
}
