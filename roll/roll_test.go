package roll_test

import (
	"math"
	"testing"

	"stopcock/api"
	"stopcock/delta"
	"stopcock/roll"
)

// negativeZero is written as a call: the constant -0.0 is a positive zero.
var negativeZero = math.Copysign(0, -1)

// extremes have low bits that look like a valid number if a conversion cuts them off.
var extremes = []int{
	-1, -2, -7, -8, -32, -256, -256 + 3, 256, 256 + 3, 1<<16 + 1, 1<<32 + 1, 1<<32 + 7, -(1 << 32) + 3,
	math.MaxInt32, math.MinInt32, math.MinInt32 + 3, math.MaxInt, math.MaxInt - 1, math.MinInt, math.MinInt + 1, math.MinInt + 3,
}

// notParts make a number no place, as its real and as its imaginary part.
var notParts = []float64{
	math.NaN(), math.Inf(1), math.Inf(-1), -1, -2, -0.5, -1e-300, 0.5, 1.5, math.SmallestNonzeroFloat64,
	math.Nextafter(1, 0), math.Nextafter(1, 2), 24, 25, 256, 1<<16 + 1, 1<<32 + 3, 1 << 63, -(1 << 63), 1e300, math.MaxFloat64,
}

func place(segment, slot int) complex128 { return complex(float64(segment), float64(slot)) }

// notPlaces are numbers that are no places; -1 is among them.
func notPlaces() []complex128 {
	list := []complex128{-1, complex(-1, negativeZero), complex(0, 16), complex(23, 16), complex(24, 0), complex(24, 15)}
	for _, x := range notParts {
		list = append(list, complex(x, 0), complex(x, 15), complex(0, x+0.25), complex(7, -math.Abs(x)), complex(x, x))
	}
	return list
}

// identical also tells negative zeros from 0.
func identical(a, b complex128) bool {
	return math.Float64bits(real(a)) == math.Float64bits(real(b)) && math.Float64bits(imag(a)) == math.Float64bits(imag(b))
}

// unplaced returns the places of so many blocks that have none.
func unplaced(size int) []complex128 {
	list := make([]complex128, size)
	for i := range list {
		list[i] = -1
	}
	return list
}

// copyOf returns a state in memory of its own.
func copyOf(s api.State) api.State {
	for id := range s.Places {
		s.Places[id] = append([]complex128(nil), s.Places[id]...)
	}
	return s
}

// sameState also tells negative zeros from 0.
func sameState(a, b api.State) bool {
	for id := range a.Places {
		if len(a.Places[id]) != len(b.Places[id]) {
			return false
		}
		for block, z := range a.Places[id] {
			if !identical(z, b.Places[id][block]) {
				return false
			}
		}
	}
	return a.Entries == b.Entries
}

// checkRoll compares all that can be asked of a roll with a state.
func checkRoll(t *testing.T, r *roll.Roll, want api.State) {
	t.Helper()
	if s := r.State(); !sameState(s, want) {
		t.Fatalf("State() = %v, want %v", s, want)
	}
	for id, entry := range want.Entries {
		if entry.Kind == 0 {
			checkEntry(t, r, id, api.Entry{}, api.ErrNone)
			checkGet(t, r, id, 0, -1, api.ErrNone)
			continue
		}
		checkEntry(t, r, id, entry, api.OK)
		for block, z := range want.Places[id] {
			checkGet(t, r, id, block, z, api.OK)
		}
		checkGet(t, r, id, entry.Size, -1, api.ErrRange)
	}
}

func checkEntry(t *testing.T, r *roll.Roll, vol int, want api.Entry, wantE api.Errno) {
	t.Helper()
	if entry, e := r.Entry(vol); entry != want || e != wantE {
		t.Errorf("Entry(%d) = %v, %d, want %v, %d", vol, entry, e, want, wantE)
	}
}

// checkGet takes -1 for a block without a place.
func checkGet(t *testing.T, r *roll.Roll, vol, block int, want complex128, wantE api.Errno) {
	t.Helper()
	wantHas := want != -1
	if !wantHas {
		want = 0
	}
	z, has, e := r.Get(vol, block)
	if !identical(z, want) || has != wantHas || e != wantE {
		t.Errorf("Get(%d, %d) = %v, %v, %d, want %v, %v, %d", vol, block, z, has, e, want, wantHas, wantE)
	}
}

func checkCreate(t *testing.T, r *roll.Roll, size, want int, wantE api.Errno) {
	t.Helper()
	if id, e := r.Create(size); id != want || e != wantE {
		t.Errorf("Create(%d) = %d, %d, want %d, %d", size, id, e, want, wantE)
	}
}

func checkSnap(t *testing.T, r *roll.Roll, vol, want int, wantE api.Errno) {
	t.Helper()
	if id, e := r.Snap(vol); id != want || e != wantE {
		t.Errorf("Snap(%d) = %d, %d, want %d, %d", vol, id, e, want, wantE)
	}
}

func checkDelete(t *testing.T, r *roll.Roll, vol int, want api.Errno) {
	t.Helper()
	if e := r.Delete(vol); e != want {
		t.Errorf("Delete(%d) = %d, want %d", vol, e, want)
	}
}

func checkSet(t *testing.T, r *roll.Roll, vol, block int, z complex128, has bool, want api.Errno) {
	t.Helper()
	if e := r.Set(vol, block, z, has); e != want {
		t.Errorf("Set(%d, %d, %v, %v) = %d, want %d", vol, block, z, has, e, want)
	}
}

func from(t *testing.T, s api.State) *roll.Roll {
	t.Helper()
	r, e := roll.From(s)
	if r == nil || e != api.OK {
		t.Fatalf("From(%v) = %v, %d", s, r, e)
	}
	return r
}

// mixed is a state with two free ids, volumes and snapshots of several sizes, and places that some of them share.
func mixed() api.State {
	var s api.State
	for id, entry := range []api.Entry{{Kind: 1, Size: 1}, {Kind: 2, Size: 32}, {}, {Kind: 1, Size: 32}, {Kind: 1, Size: 9}, {}, {Kind: 2, Size: 8}, {Kind: 1, Size: 17}} {
		s.Entries[id] = entry
		s.Places[id] = unplaced(entry.Size)
		for block := range entry.Size {
			if (id+block)%3 != 0 {
				s.Places[id][block] = place(block%24, block%16)
			}
		}
	}
	return s
}

// full returns a roll of eight ids: volumes of 8 blocks, but a snapshot of volume 0 as id 7.
func full(t *testing.T) *roll.Roll {
	t.Helper()
	r := roll.New()
	for id := range 7 {
		checkCreate(t, r, 8, id, api.OK)
	}
	checkSnap(t, r, 0, 7, api.OK)
	return r
}

// wrongIDs are ids that no volume has.
func wrongIDs() []int {
	return append([]int{8, 9, 16, 32}, extremes...)
}

// P9.1: New

func TestNewIsEmpty(t *testing.T) {
	checkRoll(t, roll.New(), api.State{})
}

func TestRollsAreSeparate(t *testing.T) {
	a, b := roll.New(), roll.New()
	checkCreate(t, a, 3, 0, api.OK)
	checkRoll(t, b, api.State{})
	checkCreate(t, b, 5, 0, api.OK)
	checkEntry(t, a, 0, api.Entry{Kind: 1, Size: 3}, api.OK)
	checkEntry(t, b, 0, api.Entry{Kind: 1, Size: 5}, api.OK)
}

// A roll that New did not make has no volumes either.
func TestZeroRoll(t *testing.T) {
	r := new(roll.Roll)
	checkRoll(t, r, api.State{})
	checkCreate(t, r, 2, 0, api.OK)
	checkEntry(t, r, 0, api.Entry{Kind: 1, Size: 2}, api.OK)
}

// P9.1: From, State

func TestFromEmptyState(t *testing.T) {
	checkRoll(t, from(t, api.State{}), api.State{})
	var s api.State
	for id := range s.Places {
		s.Places[id] = []complex128{}
	}
	checkRoll(t, from(t, s), api.State{})
}

func TestFromEachIDKindAndSize(t *testing.T) {
	for id := range 8 {
		for kind := 1; kind <= 2; kind++ {
			for size := 1; size <= 32; size++ {
				var s api.State
				s.Entries[id] = api.Entry{Kind: kind, Size: size}
				s.Places[id] = unplaced(size)
				checkRoll(t, from(t, s), s)
				s.Places[id][size-1] = place(23, 15)
				checkRoll(t, from(t, s), s)
				s.Places[id][0] = 0
				checkRoll(t, from(t, s), s)
			}
		}
	}
}

func TestFromEachPlace(t *testing.T) {
	var s api.State
	s.Entries[3] = api.Entry{Kind: 1, Size: 16}
	for segment := range 24 {
		s.Places[3] = nil
		for slot := range 16 {
			s.Places[3] = append(s.Places[3], place(segment, slot))
		}
		checkRoll(t, from(t, s), s)
	}
}

func TestFromMixedState(t *testing.T) {
	checkRoll(t, from(t, mixed()), mixed())
}

// What is made from a state goes on as what led to it.
func TestFromGoesOn(t *testing.T) {
	s := mixed()
	r := from(t, s)
	checkSet(t, r, 1, 0, 3, true, api.ErrRead)
	checkSet(t, r, 6, 7, 3, false, api.ErrRead)
	checkSet(t, r, 3, 31, place(9, 9), true, api.OK)
	checkSet(t, r, 7, 16, 0, false, api.OK)
	s.Places[3][31], s.Places[7][16] = place(9, 9), -1
	checkSnap(t, r, 3, 2, api.OK)
	s.Entries[2], s.Places[2] = api.Entry{Kind: 2, Size: 32}, s.Places[3]
	checkCreate(t, r, 4, 5, api.OK)
	s.Entries[5], s.Places[5] = api.Entry{Kind: 1, Size: 4}, unplaced(4)
	checkRoll(t, r, s)
	checkCreate(t, r, 4, 0, api.ErrFull)
	checkRoll(t, r, s)
}

func TestFromAndStateReturnNoNegativeZero(t *testing.T) {
	var s api.State
	s.Entries[0] = api.Entry{Kind: 2, Size: 6}
	s.Places[0] = []complex128{
		complex(negativeZero, 0), complex(0, negativeZero), complex(negativeZero, negativeZero),
		complex(negativeZero, 7), complex(7, negativeZero), complex(-1, negativeZero),
	}
	r := from(t, s)
	s.Places[0] = []complex128{0, 0, 0, complex(0, 7), 7, -1}
	checkRoll(t, r, s)
}

func checkNotSound(t *testing.T, s api.State) {
	t.Helper()
	if r, e := roll.From(s); r != nil || e != api.ErrForm {
		t.Errorf("From(%v) = %v, %d, want an ErrForm", s, r, e)
	}
}

func TestFromRefusesEntries(t *testing.T) {
	for id := range 8 {
		for _, kind := range append([]int{0, 3, 4, 5}, extremes...) {
			s := mixed()
			s.Entries[id] = api.Entry{Kind: kind, Size: 2}
			s.Places[id] = unplaced(2)
			checkNotSound(t, s)
			s.Entries[id].Size = 0
			s.Places[id] = nil
			if kind != 0 {
				checkNotSound(t, s)
			}
		}
		for _, size := range append([]int{0, 33, 64}, extremes...) {
			for kind := 1; kind <= 2; kind++ {
				s := mixed()
				s.Entries[id] = api.Entry{Kind: kind, Size: size}
				checkNotSound(t, s)
				s.Places[id] = unplaced(max(0, min(size, 300)))
				checkNotSound(t, s)
			}
		}
	}
}

func TestFromRefusesPlaces(t *testing.T) {
	for id := range 8 {
		s := mixed()
		s.Places[id] = append(s.Places[id], -1)
		checkNotSound(t, s)
		s = mixed()
		if n := len(s.Places[id]); n > 0 {
			s.Places[id] = s.Places[id][:n-1]
			checkNotSound(t, s)
		}
		for _, z := range notPlaces() {
			s = mixed()
			if n := len(s.Places[id]); n > 0 && z != -1 {
				s.Places[id][n-1] = z
				checkNotSound(t, s)
			}
		}
	}
}

// From neither changes nor keeps its argument, whose slices have spare capacity here.
func TestFromLeavesItsArgument(t *testing.T) {
	s := mixed()
	for id, places := range s.Places {
		s.Places[id] = append(make([]complex128, 0, 64), places...)
	}
	before := copyOf(s)
	r := from(t, s)
	checkSet(t, r, 3, 0, place(20, 1), true, api.OK)
	checkSnap(t, r, 3, 2, api.OK)
	checkDelete(t, r, 4, api.OK)
	if !sameState(s, before) {
		t.Errorf("From changed its argument to %v, want %v", s, before)
	}
	after := copyOf(r.State())
	for id := range s.Places {
		memory := s.Places[id][:64]
		for i := range memory {
			if i >= len(s.Places[id]) && memory[i] != 0 {
				t.Errorf("From wrote into the spare capacity of Places[%d]", id)
			}
			memory[i] = 5
		}
	}
	checkRoll(t, r, after)
}

func TestStateIsNewMemory(t *testing.T) {
	r := from(t, mixed())
	// A snapshot and its volume may share what no result may show.
	checkSnap(t, r, 3, 2, api.OK)
	want := copyOf(r.State())
	kept := r.State()
	s := r.State()
	for id := range s.Places {
		memory := s.Places[id][:cap(s.Places[id])]
		for i := range memory {
			memory[i] = complex(float64(id), 5)
		}
		s.Entries[id] = api.Entry{Kind: 9, Size: 9}
	}
	for id := range s.Places {
		for _, z := range s.Places[id] {
			if z != complex(float64(id), 5) {
				t.Errorf("Places[%d] shares its memory", id)
			}
		}
	}
	checkRoll(t, r, want)
	checkSet(t, r, 3, 0, place(20, 1), true, api.OK)
	checkDelete(t, r, 2, api.OK)
	if !sameState(kept, want) {
		t.Errorf("a returned state became %v, want %v", kept, want)
	}
}

// P9.2: Create

func TestCreateEachSize(t *testing.T) {
	for size := 1; size <= 32; size++ {
		r := roll.New()
		var want api.State
		for id := range 8 {
			checkCreate(t, r, size, id, api.OK)
			want.Entries[id], want.Places[id] = api.Entry{Kind: 1, Size: size}, unplaced(size)
			checkRoll(t, r, want)
		}
	}
}

func TestCreateRefusesOtherSizes(t *testing.T) {
	for _, size := range append([]int{0, 33, 34, 64}, extremes...) {
		r := roll.New()
		checkCreate(t, r, size, 0, api.ErrRange)
		checkRoll(t, r, api.State{})
		r = from(t, mixed())
		checkCreate(t, r, size, 0, api.ErrRange)
		checkRoll(t, r, mixed())
		// The size is told ahead of the ids.
		checkCreate(t, full(t), size, 0, api.ErrRange)
	}
}

func TestCreateRefusesWithoutFreeID(t *testing.T) {
	r := full(t)
	want := r.State()
	for size := 1; size <= 32; size++ {
		checkCreate(t, r, size, 0, api.ErrFull)
		checkRoll(t, r, want)
	}
}

func TestSmallestFreeID(t *testing.T) {
	for a := range 8 {
		for b := range 8 {
			r := full(t)
			checkDelete(t, r, a, api.OK)
			if b != a {
				checkDelete(t, r, b, api.OK)
			}
			vol := (max(a, b) + 1) % 8
			if vol == min(a, b) {
				vol = (vol + 1) % 8
			}
			checkCreate(t, r, 5, min(a, b), api.OK)
			checkEntry(t, r, min(a, b), api.Entry{Kind: 1, Size: 5}, api.OK)
			if b != a {
				checkSnap(t, r, vol, max(a, b), api.OK)
				checkEntry(t, r, max(a, b), api.Entry{Kind: 2, Size: sizeOf(t, r, vol)}, api.OK)
			}
			checkSnap(t, r, min(a, b), 0, api.ErrFull)
		}
	}
}

func sizeOf(t *testing.T, r *roll.Roll, vol int) int {
	t.Helper()
	entry, e := r.Entry(vol)
	if e != api.OK {
		t.Fatalf("Entry(%d): error %d", vol, e)
	}
	return entry.Size
}

// What an id had before does not come back with it.
func TestCreateAfterDeleteIsBlank(t *testing.T) {
	r := from(t, mixed())
	want := mixed()
	for _, id := range []int{0, 1, 3, 4, 6, 7} {
		checkDelete(t, r, id, api.OK)
		want.Entries[id], want.Places[id] = api.Entry{}, nil
	}
	checkRoll(t, r, want)
	for id := range 8 {
		checkCreate(t, r, 32, id, api.OK)
		want.Entries[id], want.Places[id] = api.Entry{Kind: 1, Size: 32}, unplaced(32)
		checkRoll(t, r, want)
	}
}

// P9.2: Snap

func TestSnapEachVolumeAndSnapshot(t *testing.T) {
	for vol, entry := range mixed().Entries {
		r, want := from(t, mixed()), mixed()
		if entry.Kind == 0 {
			continue
		}
		for _, id := range []int{2, 5} {
			checkSnap(t, r, vol, id, api.OK)
			want.Entries[id], want.Places[id] = api.Entry{Kind: 2, Size: entry.Size}, want.Places[vol]
			checkRoll(t, r, want)
		}
		checkSnap(t, r, vol, 0, api.ErrFull)
		checkRoll(t, r, want)
	}
}

func TestSnapRefusesOtherVolumes(t *testing.T) {
	for _, vol := range append([]int{2, 5}, wrongIDs()...) {
		r := from(t, mixed())
		checkSnap(t, r, vol, 0, api.ErrNone)
		checkRoll(t, r, mixed())
	}
	// That there is no volume is told ahead of the ids.
	for _, vol := range wrongIDs() {
		checkSnap(t, full(t), vol, 0, api.ErrNone)
	}
	for vol := range 8 {
		checkSnap(t, roll.New(), vol, 0, api.ErrNone)
		checkSnap(t, full(t), vol, 0, api.ErrFull)
	}
}

// A snapshot stays as it is, whatever becomes of its volume, and the volume does not take part in what becomes of it.
func TestSnapshotStays(t *testing.T) {
	for size := 1; size <= 32; size++ {
		r := roll.New()
		checkCreate(t, r, size, 0, api.OK)
		var want api.State
		want.Entries[0], want.Places[0] = api.Entry{Kind: 1, Size: size}, unplaced(size)
		for id := 1; id < 8; id++ {
			block := id * 5 % size
			checkSet(t, r, 0, block, place(id, id), true, api.OK)
			checkSet(t, r, 0, size-1-block, 0, id%2 == 0, api.OK)
			want.Places[0] = append([]complex128(nil), want.Places[0]...)
			want.Places[0][block], want.Places[0][size-1-block] = place(id, id), -1
			if id%2 == 0 {
				want.Places[0][size-1-block] = 0
			}
			checkSnap(t, r, 0, id, api.OK)
			want.Entries[id], want.Places[id] = api.Entry{Kind: 2, Size: size}, want.Places[0]
			checkRoll(t, r, want)
		}
		for _, id := range []int{0, 3, 7, 1} {
			checkDelete(t, r, id, api.OK)
			want.Entries[id], want.Places[id] = api.Entry{}, nil
			checkRoll(t, r, want)
		}
		checkSnap(t, r, 2, 0, api.OK)
		want.Entries[0], want.Places[0] = api.Entry{Kind: 2, Size: size}, want.Places[2]
		checkRoll(t, r, want)
	}
}

// P9.2: Delete, Entry

func TestDeleteEachID(t *testing.T) {
	for id, entry := range mixed().Entries {
		r, want := from(t, mixed()), mixed()
		if entry.Kind != 0 {
			checkDelete(t, r, id, api.OK)
			want.Entries[id], want.Places[id] = api.Entry{}, nil
		}
		checkRoll(t, r, want)
		checkDelete(t, r, id, api.ErrNone)
		checkRoll(t, r, want)
	}
}

func TestDeleteAndEntryRefuseOtherVolumes(t *testing.T) {
	r := full(t)
	want := r.State()
	for _, vol := range wrongIDs() {
		checkDelete(t, r, vol, api.ErrNone)
		checkEntry(t, r, vol, api.Entry{}, api.ErrNone)
		checkRoll(t, r, want)
	}
	for vol := range 8 {
		checkDelete(t, roll.New(), vol, api.ErrNone)
		checkEntry(t, roll.New(), vol, api.Entry{}, api.ErrNone)
	}
}

// P9.3: Get

func TestGetRefuses(t *testing.T) {
	r := from(t, mixed())
	for id, entry := range mixed().Entries {
		for _, block := range append([]int{entry.Size, entry.Size + 1, 32, 33, 40}, extremes...) {
			want := api.ErrRange
			if entry.Kind == 0 {
				want = api.ErrNone
			}
			checkGet(t, r, id, block, -1, want)
		}
	}
	for _, vol := range append([]int{2, 5}, wrongIDs()...) {
		for _, block := range append([]int{0, 1, 31, 32}, extremes...) {
			checkGet(t, r, vol, block, -1, api.ErrNone)
		}
	}
	checkRoll(t, r, mixed())
}

// P9.3: Set

func TestSetEachBlock(t *testing.T) {
	for id, entry := range mixed().Entries {
		if entry.Kind != 1 {
			continue
		}
		for block := range entry.Size {
			r, want := from(t, mixed()), mixed()
			for _, z := range []complex128{place(23, 15), 0, 0, place(0, 1)} {
				checkSet(t, r, id, block, z, true, api.OK)
				want.Places[id][block] = z
				checkRoll(t, r, want)
			}
			for range 2 {
				checkSet(t, r, id, block, 3, false, api.OK)
				want.Places[id][block] = -1
				checkRoll(t, r, want)
			}
		}
	}
}

func TestSetEachPlace(t *testing.T) {
	r := roll.New()
	checkCreate(t, r, 10, 0, api.OK)
	for segment := range 24 {
		for slot := range 16 {
			checkSet(t, r, 0, 9, place(segment, slot), true, api.OK)
			checkGet(t, r, 0, 9, place(segment, slot), api.OK)
		}
	}
}

// Without a place it does not matter what z is.
func TestSetNoneTakesAnyNumber(t *testing.T) {
	for _, z := range append(notPlaces(), 0, place(23, 15)) {
		r, want := from(t, mixed()), mixed()
		for _, block := range []int{0, 1, 31} {
			checkSet(t, r, 3, block, z, false, api.OK)
			want.Places[3][block] = -1
			checkRoll(t, r, want)
		}
	}
}

func TestSetReturnsNoNegativeZero(t *testing.T) {
	r := roll.New()
	checkCreate(t, r, 3, 0, api.OK)
	for _, c := range []struct{ z, want complex128 }{
		{complex(negativeZero, 0), 0}, {complex(0, negativeZero), 0}, {complex(negativeZero, negativeZero), 0},
		{complex(negativeZero, 7), complex(0, 7)}, {complex(7, negativeZero), 7},
	} {
		checkSet(t, r, 0, 1, c.z, true, api.OK)
		checkGet(t, r, 0, 1, c.want, api.OK)
	}
}

func TestSetRefusesOtherPlaces(t *testing.T) {
	r := from(t, mixed())
	for _, z := range notPlaces() {
		checkSet(t, r, 0, 0, z, true, api.ErrForm)
		checkSet(t, r, 3, 0, z, true, api.ErrForm)
		checkSet(t, r, 3, 31, z, true, api.ErrForm)
		checkRoll(t, r, mixed())
	}
}

// The errors are told in the order in which the chapter names them.
func TestSetOrderOfErrors(t *testing.T) {
	r := from(t, mixed())
	for _, z := range []complex128{0, -1, complex(math.NaN(), 0)} {
		for _, has := range []bool{false, true} {
			for _, vol := range append([]int{2, 5}, wrongIDs()...) {
				for _, block := range append([]int{0, 31, 32}, extremes...) {
					checkSet(t, r, vol, block, z, has, api.ErrNone)
				}
			}
			for _, block := range append([]int{0, 7, 8, 31, 32, 33}, extremes...) {
				checkSet(t, r, 1, block, z, has, api.ErrRead)
				checkSet(t, r, 6, block, z, has, api.ErrRead)
			}
			for _, block := range append([]int{32, 33, 64}, extremes...) {
				checkSet(t, r, 0, block, z, has, api.ErrRange)
				checkSet(t, r, 3, block, z, has, api.ErrRange)
			}
			checkSet(t, r, 0, 1, z, has, api.ErrRange)
			checkSet(t, r, 4, 9, z, has, api.ErrRange)
			checkSet(t, r, 7, 17, z, has, api.ErrRange)
		}
	}
	checkRoll(t, r, mixed())
}

// P9.1 to P9.3: a nil roll

func TestNilRoll(t *testing.T) {
	var r *roll.Roll
	if s := r.State(); !sameState(s, api.State{}) {
		t.Errorf("State() = %v of a nil roll", s)
	}
	for _, n := range append([]int{0, 1, 7, 8, 32, 33}, extremes...) {
		checkCreate(t, r, n, 0, api.ErrArg)
		checkSnap(t, r, n, 0, api.ErrArg)
		checkDelete(t, r, n, api.ErrArg)
		checkEntry(t, r, n, api.Entry{}, api.ErrArg)
		for _, block := range append([]int{0, 31, 32}, extremes...) {
			checkGet(t, r, n, block, -1, api.ErrArg)
			checkSet(t, r, n, block, 0, true, api.ErrArg)
			checkSet(t, r, n, block, -1, true, api.ErrArg)
			checkSet(t, r, n, block, 0, false, api.ErrArg)
		}
	}
}

// P9.1 to P9.3: against deltas

// dice returns numbers that look random, the same ones for the same seed.
func dice(seed uint32) func(n int) int {
	return func(n int) int {
		seed = seed*1664525 + 1013904223
		return int(seed>>8) % n
	}
}

// free returns the smallest free id, 8 if there is none.
func free(s api.State) int {
	for id, entry := range s.Entries {
		if entry.Kind == 0 {
			return id
		}
	}
	return 8
}

// after returns the state after a delta, or the state itself and the delta's error.
func after(s api.State, d api.Delta) (api.State, api.Errno) {
	next, _, e := delta.Apply(s, d)
	if e != api.OK {
		return s, e
	}
	return next, api.OK
}

// createStep creates a volume of that size, compares the result, and returns the state that there should be then.
func createStep(t *testing.T, r *roll.Roll, s api.State, size int) api.State {
	t.Helper()
	id := free(s)
	if id == 8 {
		checkCreate(t, r, size, 0, api.ErrFull)
		return s
	}
	checkCreate(t, r, size, id, api.OK)
	s, _ = after(s, api.Delta{Kind: 1, Vol: id, Block: size})
	return s
}

func snapStep(t *testing.T, r *roll.Roll, s api.State, vol int) api.State {
	t.Helper()
	id := free(s)
	if s.Entries[vol].Kind == 0 {
		checkSnap(t, r, vol, 0, api.ErrNone)
		return s
	}
	if id == 8 {
		checkSnap(t, r, vol, 0, api.ErrFull)
		return s
	}
	checkSnap(t, r, vol, id, api.OK)
	s, _ = after(s, api.Delta{Kind: 3, Vol: vol, Other: id})
	return s
}

func deleteStep(t *testing.T, r *roll.Roll, s api.State, vol int) api.State {
	t.Helper()
	s, e := after(s, api.Delta{Kind: 2, Vol: vol})
	checkDelete(t, r, vol, e)
	return s
}

func setStep(t *testing.T, r *roll.Roll, s api.State, vol, block int, z complex128, has bool) api.State {
	t.Helper()
	d := api.Delta{Kind: 5, Vol: vol, Block: block}
	if has {
		d.Kind, d.Place = 4, z
	}
	s, e := after(s, d)
	checkSet(t, r, vol, block, z, has, e)
	return s
}

func TestAgainstDeltas(t *testing.T) {
	for seed := range uint32(40) {
		throw := dice(seed * 7919)
		r, s := roll.New(), api.State{}
		for n := range 300 {
			vol, block := throw(8), throw(32)
			switch throw(10) {
			case 0:
				s = createStep(t, r, s, 1+block)
			case 1:
				s = snapStep(t, r, s, vol)
			case 2:
				s = deleteStep(t, r, s, vol)
			default:
				s = setStep(t, r, s, vol, block, place(throw(24), throw(16)), throw(3) > 0)
			}
			checkRoll(t, r, s)
			if n%50 == 49 {
				r = from(t, r.State())
				checkRoll(t, r, s)
			}
			if t.Failed() {
				t.Fatalf("seed %d, step %d", seed, n)
			}
		}
	}
}
