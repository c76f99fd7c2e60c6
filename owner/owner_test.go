package owner_test

import (
	"math"
	"slices"
	"testing"

	"stopcock/api"
	"stopcock/owner"
)

// negativeZero is written as a call: the constant -0.0 is a positive zero.
var negativeZero = math.Copysign(0, -1)

// extremes have low bits that look like a valid number if a conversion cuts them off.
var extremes = []int{
	-1, -2, -6, -16, -256, -256 + 6, 256, 256 + 6, 1<<16 + 6, 1<<32 + 2, 1<<32 + 6, -(1 << 32) + 6,
	math.MaxInt32, math.MinInt32, math.MinInt32 + 6, math.MaxInt, math.MaxInt - 1, math.MinInt, math.MinInt + 1, math.MinInt + 6,
}

// notParts make a number no place, as its real and as its imaginary part.
var notParts = []float64{
	math.NaN(), math.Inf(1), math.Inf(-1), -1, -2, -0.5, -1e-300, 0.5, 1.5, math.SmallestNonzeroFloat64,
	math.Nextafter(1, 0), math.Nextafter(1, 2), 24, 25, 256, 1<<16 + 1, 1<<32 + 3, 1 << 63, -(1 << 63), 1e300, math.MaxFloat64,
}

func place(segment, slot int) complex128 { return complex(float64(segment), float64(slot)) }

// notPlaces are numbers that are no places; -1 is among them.
func notPlaces() []complex128 {
	list := []complex128{-1, complex(-1, negativeZero), complex(0, 16), complex(23, 16), complex(24, 0), complex(24, 15)}
	for _, x := range notParts {
		list = append(list, complex(x, 0), complex(x, 15), complex(0, x+0.25), complex(7, -math.Abs(x)), complex(x, x))
	}
	return list
}

// allPlaces are all places in increasing order.
func allPlaces() []complex128 {
	var list []complex128
	for segment := range 24 {
		for slot := range 16 {
			list = append(list, place(segment, slot))
		}
	}
	return list
}

// identical also tells negative zeros from 0.
func identical(a, b complex128) bool {
	return math.Float64bits(real(a)) == math.Float64bits(real(b)) && math.Float64bits(imag(a)) == math.Float64bits(imag(b))
}

// unplaced returns the places of so many blocks that have none.
func unplaced(size int) []complex128 {
	return slices.Repeat([]complex128{-1}, size)
}

// volumes returns a state with a volume or snapshot for each list of places that is not empty.
func volumes(lists ...[]complex128) api.State {
	var s api.State
	for vol, places := range lists {
		if len(places) > 0 {
			s.Entries[vol] = api.Entry{Kind: 1 + vol%2, Size: len(places)}
			s.Places[vol] = slices.Clone(places)
		}
	}
	return s
}

// copyOf returns a state in memory of its own.
func copyOf(s api.State) api.State {
	for vol := range s.Places {
		s.Places[vol] = slices.Clone(s.Places[vol])
	}
	return s
}

// roomy returns a copy of a state, all of whose lists have spare capacity.
func roomy(s api.State) api.State {
	for vol, places := range s.Places {
		s.Places[vol] = append(make([]complex128, 0, 64), places...)
	}
	return s
}

// sameState also tells negative zeros from 0.
func sameState(a, b api.State) bool {
	for vol := range a.Places {
		if !slices.EqualFunc(a.Places[vol], b.Places[vol], identical) {
			return false
		}
	}
	return a.Entries == b.Entries
}

// checkUnchanged also looks at the spare capacity of a state that roomy returned.
func checkUnchanged(t *testing.T, s, before api.State) {
	t.Helper()
	if !sameState(s, before) {
		t.Errorf("the argument is %v now, was %v", s, before)
	}
	for vol, places := range s.Places {
		for i, z := range places[len(places):64] {
			if z != 0 {
				t.Errorf("place %d of the spare capacity of volume %d is %v now", i, vol, z)
			}
		}
	}
}

// ownersOf is a reference for Owners: it looks for each place there is in all blocks.
func ownersOf(s api.State) ([]complex128, [][]api.Owner) {
	var places []complex128
	var lists [][]api.Owner
	for _, z := range allPlaces() {
		var list []api.Owner
		for vol := range 8 {
			for block := range s.Entries[vol].Size {
				if s.Places[vol][block] == z {
					list = append(list, api.Owner{Vol: vol, Block: block})
				}
			}
		}
		if len(list) > 0 {
			places, lists = append(places, z), append(lists, list)
		}
	}
	return places, lists
}

// movedOf is a reference for Move with an OK.
func movedOf(s api.State, from, to complex128) api.State {
	s = copyOf(s)
	for _, places := range s.Places {
		for block, z := range places {
			if z == from {
				places[block] = to
			}
		}
	}
	return s
}

// fitOf is a reference for Fit of a sound state and a valid geometry.
func fitOf(s api.State, p api.Plat) api.Errno {
	places, _ := ownersOf(s)
	for _, z := range places {
		if int(real(z)) >= p.Segments || int(imag(z)) >= p.Blocks {
			return api.ErrRange
		}
	}
	if len(places) > p.Segments*p.Blocks-4*p.Blocks {
		return api.ErrSpace
	}
	return api.OK
}

// checkOwners checks Owners and Live of a sound state.
func checkOwners(t *testing.T, s api.State) {
	t.Helper()
	wantPlaces, wantLists := ownersOf(s)
	places, lists, e := owner.Owners(s)
	if !slices.EqualFunc(places, wantPlaces, identical) || !slices.EqualFunc(lists, wantLists, slices.Equal) || e != api.OK {
		t.Fatalf("Owners(%v) = %v, %v, %d, want %v, %v", s, places, lists, e, wantPlaces, wantLists)
	}
	if n, e := owner.Live(s); n != len(wantPlaces) || e != api.OK {
		t.Fatalf("Live(%v) = %d, %d, want %d", s, n, e, len(wantPlaces))
	}
}

func checkMove(t *testing.T, s api.State, from, to complex128, want api.State) {
	t.Helper()
	if moved, e := owner.Move(s, from, to); !sameState(moved, want) || e != api.OK {
		t.Fatalf("Move(%v, %v, %v) = %v, %d, want %v", s, from, to, moved, e, want)
	}
}

func checkMoveRefused(t *testing.T, s api.State, from, to complex128, want api.Errno) {
	t.Helper()
	if moved, e := owner.Move(s, from, to); !sameState(moved, api.State{}) || e != want {
		t.Errorf("Move(%v, %v, %v) = %v, %d, want error %d", s, from, to, moved, e, want)
	}
}

func checkFit(t *testing.T, s api.State, p api.Plat, want api.Errno) {
	t.Helper()
	if e := owner.Fit(s, p); e != want {
		t.Errorf("Fit(%v, %v) = %d, want %d", s, p, e, want)
	}
}

// dice returns a function that returns numbers from 0 to n - 1, the same ones in each run.
func dice(seed uint64) func(n int) int {
	return func(n int) int {
		seed = seed*6364136223846793005 + 1442695040888963407
		return int(seed>>33) % n
	}
}

// thrown returns a sound state whose places lie in some segments and slots, so that blocks share them.
func thrown(roll func(n int) int) api.State {
	segments, slots := 1+roll(24), 1+roll(16)
	var s api.State
	for vol := range 8 {
		kind := roll(3)
		if kind == 0 {
			continue
		}
		size := 1 + roll(32)
		s.Entries[vol] = api.Entry{Kind: kind, Size: size}
		s.Places[vol] = unplaced(size)
		for block := range size {
			if roll(4) != 0 {
				s.Places[vol][block] = place(roll(segments), roll(slots))
			}
		}
	}
	return s
}

// shared is a state with two free ids, where some blocks share places.
func shared() api.State {
	return volumes(
		[]complex128{place(5, 2), -1, place(0, 3)},
		[]complex128{place(5, 2), place(5, 1), -1, place(0, 3)},
		nil,
		[]complex128{-1},
		[]complex128{place(0, 3), place(0, 3), place(4, 15)},
		nil,
		[]complex128{place(23, 15)},
		[]complex128{place(5, 2), 0},
	)
}

// notSound returns states that no deltas lead to.
func notSound() []api.State {
	var list []api.State
	change := func(f func(s *api.State)) {
		s := copyOf(shared())
		f(&s)
		list = append(list, s)
	}
	for vol := range 8 {
		for _, kind := range append([]int{3, 4, 5}, extremes...) {
			change(func(s *api.State) { s.Entries[vol].Kind = kind })
		}
		for _, size := range append([]int{33, 64}, extremes...) {
			change(func(s *api.State) { s.Entries[vol].Size = size })
		}
		change(func(s *api.State) { s.Entries[vol] = api.Entry{Kind: 1} })
		change(func(s *api.State) { s.Entries[vol] = api.Entry{Kind: 1}; s.Places[vol] = nil })
		change(func(s *api.State) { s.Entries[vol] = api.Entry{Size: 1}; s.Places[vol] = unplaced(1) })
		change(func(s *api.State) { s.Entries[vol] = api.Entry{Kind: 2, Size: 33}; s.Places[vol] = unplaced(33) })
		change(func(s *api.State) { s.Places[vol] = append(s.Places[vol], place(1, 1)) })
		for _, z := range notPlaces() {
			if z != -1 {
				change(func(s *api.State) { s.Entries[vol] = api.Entry{Kind: 2, Size: 2}; s.Places[vol] = []complex128{-1, z} })
			}
		}
	}
	return list
}

// P10.1: Owners, Live

func TestOwnersOfNothing(t *testing.T) {
	checkOwners(t, api.State{})
	checkOwners(t, volumes(unplaced(1)))
	checkOwners(t, volumes(unplaced(32), unplaced(32), nil, unplaced(7)))
	s := api.State{}
	for vol := range s.Places {
		s.Places[vol] = []complex128{}
	}
	checkOwners(t, s)
}

func TestOwnersWrittenOut(t *testing.T) {
	places, lists, e := owner.Owners(shared())
	wantPlaces := []complex128{0, place(0, 3), place(4, 15), place(5, 1), place(5, 2), place(23, 15)}
	wantLists := [][]api.Owner{
		{{Vol: 7, Block: 1}},
		{{Vol: 0, Block: 2}, {Vol: 1, Block: 3}, {Vol: 4, Block: 0}, {Vol: 4, Block: 1}},
		{{Vol: 4, Block: 2}},
		{{Vol: 1, Block: 1}},
		{{Vol: 0, Block: 0}, {Vol: 1, Block: 0}, {Vol: 7, Block: 0}},
		{{Vol: 6, Block: 0}},
	}
	if !slices.Equal(places, wantPlaces) || !slices.EqualFunc(lists, wantLists, slices.Equal) || e != api.OK {
		t.Errorf("Owners = %v, %v, %d, want %v, %v", places, lists, e, wantPlaces, wantLists)
	}
	if n, e := owner.Live(shared()); n != 6 || e != api.OK {
		t.Errorf("Live = %d, %d, want 6", n, e)
	}
}

func TestOwnersOfEachPlace(t *testing.T) {
	for i, z := range allPlaces() {
		lists := make([][]complex128, 8)
		lists[i%8] = unplaced(1 + i%32)
		lists[i%8][i%32] = z
		checkOwners(t, volumes(lists...))
	}
}

// As many blocks as there can be: 256 with places of their own, and all with the same one.
func TestOwnersOfFullStates(t *testing.T) {
	var own, same [][]complex128
	places := allPlaces()
	slices.Reverse(places)
	for vol := range 8 {
		own = append(own, places[32*vol:32*vol+32])
		same = append(same, slices.Repeat([]complex128{place(11, 13)}, 32))
	}
	checkOwners(t, volumes(own...))
	checkOwners(t, volumes(same...))
	if n, e := owner.Live(volumes(own...)); n != 256 || e != api.OK {
		t.Errorf("Live = %d, %d, want 256", n, e)
	}
	if n, e := owner.Live(volumes(same...)); n != 1 || e != api.OK {
		t.Errorf("Live = %d, %d, want 1", n, e)
	}
}

func TestOwnersOfManyStates(t *testing.T) {
	roll := dice(1)
	for range 500 {
		checkOwners(t, thrown(roll))
	}
}

// A map is gone through in another order each time: the results stay the same.
func TestOwnersAlwaysSame(t *testing.T) {
	s := thrown(dice(2))
	for range 100 {
		checkOwners(t, s)
	}
}

func TestOwnersTakeNegativeZerosAsZero(t *testing.T) {
	s := volumes(
		[]complex128{complex(negativeZero, 0), complex(-1, negativeZero), complex(negativeZero, 7)},
		[]complex128{0, complex(7, negativeZero)},
		[]complex128{7, complex(negativeZero, negativeZero), complex(0, 7)},
	)
	checkOwners(t, s)
	if n, e := owner.Live(s); n != 3 || e != api.OK {
		t.Errorf("Live(%v) = %d, %d, want 3", s, n, e)
	}
}

func TestOwnersAndLiveRefuseStates(t *testing.T) {
	for _, s := range notSound() {
		if places, lists, e := owner.Owners(s); len(places) != 0 || len(lists) != 0 || e != api.ErrForm {
			t.Errorf("Owners(%v) = %v, %v, %d, want ErrForm", s, places, lists, e)
		}
		if n, e := owner.Live(s); n != 0 || e != api.ErrForm {
			t.Errorf("Live(%v) = %d, %d, want ErrForm", s, n, e)
		}
	}
}

func TestOwnersAndLiveLeaveTheirArgument(t *testing.T) {
	s, before := roomy(shared()), shared()
	places, lists, _ := owner.Owners(s)
	owner.Live(s)
	checkUnchanged(t, s, before)
	spoil(places, lists)
	checkUnchanged(t, s, before)
}

// spoil writes to all memory of the results of Owners.
func spoil(places []complex128, lists [][]api.Owner) {
	places = places[:cap(places)]
	for i := range places {
		places[i] = place(9, 9)
	}
	for _, list := range lists {
		list = list[:cap(list)]
		for i := range list {
			list[i] = api.Owner{Vol: 6, Block: 6}
		}
	}
}

// No two lists share memory, not even their spare capacity, and none is kept for the next call.
func TestOwnersInMemoryOfTheirOwn(t *testing.T) {
	for i := range 6 {
		_, want := ownersOf(shared())
		_, lists, _ := owner.Owners(shared())
		spoil(nil, lists[i:i+1])
		for j := range lists {
			if j != i && !slices.Equal(lists[j], want[j]) {
				t.Errorf("list %d changed with list %d to %v", j, i, lists[j])
			}
		}
	}
	places, lists, _ := owner.Owners(shared())
	spoil(places, lists)
	checkOwners(t, shared())
}

// P10.2: Move

func TestMoveWrittenOut(t *testing.T) {
	s := shared()
	want := shared()
	want.Places[0][0], want.Places[1][0], want.Places[7][0] = place(5, 3), place(5, 3), place(5, 3)
	checkMove(t, s, place(5, 2), place(5, 3), want)
	want = shared()
	want.Places[0][2], want.Places[1][3], want.Places[4][0], want.Places[4][1] = 15i, 15i, 15i, 15i
	checkMove(t, s, place(0, 3), 15i, want)
	want = shared()
	want.Places[6][0] = 1
	checkMove(t, s, place(23, 15), 1, want)
	want = shared()
	want.Places[7][1] = place(23, 14)
	checkMove(t, s, 0, place(23, 14), want)
}

// From each place that a block has, to each place there is.
func TestMoveBetweenAllPlaces(t *testing.T) {
	s := shared()
	live, _ := ownersOf(s)
	for _, from := range allPlaces() {
		for _, to := range allPlaces() {
			switch {
			case !slices.Contains(live, from):
				checkMoveRefused(t, s, from, to, api.ErrNone)
			case from != to && slices.Contains(live, to):
				checkMoveRefused(t, s, from, to, api.ErrBusy)
			default:
				checkMove(t, s, from, to, movedOf(s, from, to))
			}
		}
	}
}

func TestMoveToSamePlace(t *testing.T) {
	for _, z := range []complex128{0, place(0, 3), place(4, 15), place(5, 1), place(5, 2), place(23, 15)} {
		checkMove(t, shared(), z, z, shared())
	}
	checkMoveRefused(t, shared(), place(1, 1), place(1, 1), api.ErrNone)
}

func TestMoveInManyStates(t *testing.T) {
	roll := dice(3)
	for range 500 {
		s := thrown(roll)
		live, _ := ownersOf(s)
		if len(live) == 0 {
			checkMoveRefused(t, s, 0, 0, api.ErrNone)
			continue
		}
		from, to := live[roll(len(live))], place(roll(24), roll(16))
		if to != from && slices.Contains(live, to) {
			checkMoveRefused(t, s, from, to, api.ErrBusy)
			continue
		}
		checkMove(t, s, from, to, movedOf(s, from, to))
	}
}

func TestMoveReturnsNoNegativeZero(t *testing.T) {
	s := volumes(
		[]complex128{complex(negativeZero, 0), 3, complex(negativeZero, 7)},
		[]complex128{0, complex(4, negativeZero), complex(-1, negativeZero)},
	)
	want := volumes([]complex128{6, 3, 7i}, []complex128{6, 4, -1})
	checkMove(t, s, 0, complex(6, negativeZero), want)
	checkMove(t, s, complex(0, negativeZero), 6, want)
	want = volumes([]complex128{0, 0, 7i}, []complex128{0, 4, -1})
	s.Places[0][0], s.Places[1][0], s.Places[0][1] = 3, 3, 3
	checkMove(t, s, 3, complex(negativeZero, negativeZero), want)
	want = volumes([]complex128{3, 3, 7i}, []complex128{3, 4, -1})
	checkMove(t, s, 4, complex(4, negativeZero), want)
	checkMoveRefused(t, s, 3, complex(negativeZero, 7), api.ErrBusy)
	checkMoveRefused(t, s, complex(negativeZero, 6), 9, api.ErrNone)
}

func TestMoveRefusesNumbersThatAreNoPlaces(t *testing.T) {
	for _, z := range notPlaces() {
		for _, other := range []complex128{0, place(5, 2), place(1, 1), z} {
			checkMoveRefused(t, shared(), z, other, api.ErrForm)
			checkMoveRefused(t, shared(), other, z, api.ErrForm)
			checkMoveRefused(t, api.State{}, z, other, api.ErrForm)
			checkMoveRefused(t, api.State{}, other, z, api.ErrForm)
		}
	}
}

// No block has from, and one has to: ErrNone comes first.
func TestMoveOrderOfErrors(t *testing.T) {
	checkMoveRefused(t, shared(), place(1, 1), place(5, 2), api.ErrNone)
	checkMoveRefused(t, shared(), place(1, 1), place(1, 2), api.ErrNone)
	checkMoveRefused(t, shared(), place(5, 1), place(5, 2), api.ErrBusy)
	checkMoveRefused(t, api.State{}, 0, 1, api.ErrNone)
	checkMoveRefused(t, volumes(unplaced(32)), 0, 0, api.ErrNone)
}

func TestMoveRefusesStates(t *testing.T) {
	for _, s := range notSound() {
		checkMoveRefused(t, s, place(5, 2), place(5, 3), api.ErrForm)
		checkMoveRefused(t, s, place(9, 9), place(5, 3), api.ErrForm)
		checkMoveRefused(t, s, place(5, 1), place(5, 2), api.ErrForm)
	}
}

func TestMoveInMemoryOfItsOwn(t *testing.T) {
	s, before := roomy(shared()), shared()
	for _, to := range []complex128{place(5, 2), place(5, 3)} {
		moved, _ := owner.Move(s, place(5, 2), to)
		checkUnchanged(t, s, before)
		for vol, places := range moved.Places {
			want := copyOf(moved)
			places = places[:cap(places)]
			for i := range places {
				places[i] = place(9, 9)
			}
			moved.Places[vol] = want.Places[vol]
			if !sameState(moved, want) {
				t.Errorf("the lists of Move share memory with that of volume %d", vol)
			}
		}
		checkUnchanged(t, s, before)
	}
}

// P10.3: Fit

// spread returns a state of n blocks with places of their own in segments of so many blocks, each had twice if there is room.
func spread(n, blocks int) api.State {
	var lists [][]complex128
	var list []complex128
	for i := range n {
		list = append(list, place(i/blocks, i%blocks))
		if len(list) == 32 {
			lists, list = append(lists, list), nil
		}
	}
	lists = append(lists, list)
	if once := len(lists); 2*once <= 8 {
		lists = append(lists, lists...)
	}
	return volumes(lists...)
}

// In each geometry as many blocks as there is capacity for fit, and one more does not.
func TestFitCapacityOfEachGeometry(t *testing.T) {
	for segments := 6; segments <= 24; segments++ {
		for blocks := 2; blocks <= 16; blocks++ {
			p, capacity := api.Plat{Segments: segments, Blocks: blocks}, (segments-4)*blocks
			for _, n := range []int{0, 1, capacity - 1, capacity} {
				if n <= 256 {
					checkFit(t, spread(n, blocks), p, api.OK)
				}
			}
			for _, n := range []int{capacity + 1, capacity + blocks, segments * blocks} {
				if n <= 256 {
					checkFit(t, spread(n, blocks), p, api.ErrSpace)
				}
			}
		}
	}
}

// In each geometry each place is looked for: whether it exists there.
func TestFitPlacesOfEachGeometry(t *testing.T) {
	for segments := 6; segments <= 24; segments++ {
		for blocks := 2; blocks <= 16; blocks++ {
			p := api.Plat{Segments: segments, Blocks: blocks}
			for _, z := range allPlaces() {
				want := api.OK
				if int(real(z)) >= segments || int(imag(z)) >= blocks {
					want = api.ErrRange
				}
				checkFit(t, volumes(nil, []complex128{-1, place(2, 1), z}), p, want)
			}
		}
	}
}

func TestFitOfManyStates(t *testing.T) {
	roll := dice(4)
	for range 1000 {
		s, p := thrown(roll), api.Plat{Segments: 6 + roll(19), Blocks: 2 + roll(15)}
		checkFit(t, s, p, fitOf(s, p))
	}
}

func TestFitTakesNegativeZerosAsZero(t *testing.T) {
	s := volumes([]complex128{0, complex(negativeZero, 0), 1i, complex(negativeZero, 1), 1, complex(1, negativeZero), 2})
	checkFit(t, s, api.Plat{Segments: 6, Blocks: 2}, api.OK)
	s.Entries[2], s.Places[2] = api.Entry{Kind: 2, Size: 1}, []complex128{3}
	checkFit(t, s, api.Plat{Segments: 6, Blocks: 2}, api.ErrSpace)
}

func TestFitRefusesGeometriesFirst(t *testing.T) {
	far := volumes([]complex128{place(23, 15)})
	for _, n := range append([]int{0, 1, 5, 25, 26, 32}, extremes...) {
		for _, s := range append(notSound()[:3], api.State{}, far, spread(256, 16)) {
			checkFit(t, s, api.Plat{Segments: n, Blocks: 2}, api.ErrArg)
			checkFit(t, s, api.Plat{Segments: n, Blocks: 16}, api.ErrArg)
		}
	}
	for _, n := range append([]int{0, 1, 17, 18, 32}, extremes...) {
		for _, s := range append(notSound()[:3], api.State{}, far, spread(256, 16)) {
			checkFit(t, s, api.Plat{Segments: 6, Blocks: n}, api.ErrArg)
			checkFit(t, s, api.Plat{Segments: 24, Blocks: n}, api.ErrArg)
		}
	}
}

func TestFitRefusesStates(t *testing.T) {
	for _, s := range notSound() {
		checkFit(t, s, api.Plat{Segments: 24, Blocks: 16}, api.ErrForm)
		checkFit(t, s, api.Plat{Segments: 6, Blocks: 2}, api.ErrForm)
	}
}

// More places than the capacity, and one of them, the first or the last, does not exist: ErrRange comes first.
func TestFitOrderOfErrors(t *testing.T) {
	p := api.Plat{Segments: 6, Blocks: 2}
	checkFit(t, spread(5, 2), p, api.ErrSpace)
	for _, z := range []complex128{2i, place(5, 2), place(6, 0), place(23, 15)} {
		s := spread(5, 2)
		s.Entries[7], s.Places[7] = api.Entry{Kind: 1, Size: 1}, []complex128{z}
		checkFit(t, s, p, api.ErrRange)
	}
}

func TestFitLeavesItsArgument(t *testing.T) {
	s, before := roomy(shared()), shared()
	checkFit(t, s, api.Plat{Segments: 24, Blocks: 16}, api.OK)
	checkFit(t, s, api.Plat{Segments: 6, Blocks: 2}, api.ErrRange)
	checkUnchanged(t, s, before)
}
