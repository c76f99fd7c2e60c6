package table_test

import (
	"math"
	"testing"

	"stopcock/api"
	"stopcock/table"
)

// negativeZero is written as a call: the constant -0.0 is a positive zero.
var negativeZero = math.Copysign(0, -1)

// extremes have low bits that look like a valid number if a conversion cuts them off.
var extremes = []int{
	-1, -2, -8, -32, -256, -256 + 3, 256, 256 + 3, 1<<16 + 1, 1<<32 + 1, 1<<32 + 20, -(1 << 32) + 3,
	math.MaxInt32, math.MinInt32, math.MinInt32 + 3, math.MaxInt, math.MaxInt - 1, math.MinInt, math.MinInt + 1, math.MinInt + 3,
}

// notParts make a number no place, as its real and as its imaginary part.
var notParts = []float64{
	math.NaN(), math.Inf(1), math.Inf(-1), -1, -2, -0.5, -1e-300, 0.5, 1.5, math.SmallestNonzeroFloat64,
	math.Nextafter(1, 0), math.Nextafter(1, 2), 24, 25, 256, 1<<16 + 1, 1<<32 + 3, 1 << 63, -(1 << 63), 1e300, math.MaxFloat64,
}

func place(segment, slot int) complex128 { return complex(float64(segment), float64(slot)) }

// notPlaces are numbers that are no places; -1 is among them.
func notPlaces() []complex128 {
	list := []complex128{-1, complex(-1, negativeZero), complex(0, 16), complex(23, 16), complex(24, 0), complex(24, 15)}
	for _, x := range notParts {
		list = append(list, complex(x, 0), complex(x, 15), complex(0, x+0.25), complex(7, -math.Abs(x)), complex(x, x))
	}
	return list
}

// identical also tells negative zeros from 0.
func identical(a, b complex128) bool {
	return math.Float64bits(real(a)) == math.Float64bits(real(b)) && math.Float64bits(imag(a)) == math.Float64bits(imag(b))
}

// unplaced returns the places of so many blocks that have none.
func unplaced(size int) []complex128 {
	list := make([]complex128, size)
	for i := range list {
		list[i] = -1
	}
	return list
}

// checkTable compares all that can be asked of one table with the places that its blocks have.
func checkTable(t *testing.T, x *table.Table, want []complex128) {
	t.Helper()
	if x.Size() != len(want) {
		t.Errorf("Size() = %d, want %d", x.Size(), len(want))
	}
	all := x.All()
	if len(all) != len(want) {
		t.Fatalf("All() = %v, want %v", all, want)
	}
	for block, z := range want {
		if !identical(all[block], z) {
			t.Errorf("All()[%d] = %v, want %v", block, all[block], z)
		}
		checkGet(t, x, block, z, api.OK)
	}
	checkPages(t, x, want)
}

// checkPages compares the number of pages: those with a block that has a place.
func checkPages(t *testing.T, x *table.Table, want []complex128) {
	t.Helper()
	pages := map[int]bool{}
	for block, z := range want {
		if z != -1 {
			pages[block/8] = true
		}
	}
	if n := table.Shared(x, x); n != len(pages) {
		t.Errorf("%v has %d pages, want %d", want, n, len(pages))
	}
}

// checkGet takes -1 for a block without a place.
func checkGet(t *testing.T, x *table.Table, block int, want complex128, wantE api.Errno) {
	t.Helper()
	wantHas := want != -1
	if !wantHas {
		want = 0
	}
	z, has, e := x.Get(block)
	if !identical(z, want) || has != wantHas || e != wantE {
		t.Errorf("Get(%d) = %v, %v, %d, want %v, %v, %d", block, z, has, e, want, wantHas, wantE)
	}
}

func checkShared(t *testing.T, a, b *table.Table, want int) {
	t.Helper()
	if n := table.Shared(a, b); n != want {
		t.Errorf("Shared(%v, %v) = %d, want %d", a.All(), b.All(), n, want)
	}
	if n := table.Shared(b, a); n != want {
		t.Errorf("Shared(%v, %v) = %d, want %d", b.All(), a.All(), n, want)
	}
}

func blank(t *testing.T, size int) *table.Table {
	t.Helper()
	x, e := table.New(size)
	if x == nil || e != api.OK {
		t.Fatalf("New(%d) = %v, %d", size, x, e)
	}
	return x
}

func put(t *testing.T, x *table.Table, block int, z complex128) *table.Table {
	t.Helper()
	next, e := x.Put(block, z)
	if next == nil || e != api.OK {
		t.Fatalf("Put(%d, %v) = %v, %d", block, z, next, e)
	}
	return next
}

func drop(t *testing.T, x *table.Table, block int) *table.Table {
	t.Helper()
	next, e := x.Drop(block)
	if next == nil || e != api.OK {
		t.Fatalf("Drop(%d) = %v, %d", block, next, e)
	}
	return next
}

func checkPutError(t *testing.T, x *table.Table, block int, z complex128, want api.Errno) {
	t.Helper()
	if next, e := x.Put(block, z); next != nil || e != want {
		t.Errorf("Put(%d, %v) = %v, %d, want %d", block, z, next, e, want)
	}
}

func checkDropError(t *testing.T, x *table.Table, block int, want api.Errno) {
	t.Helper()
	if next, e := x.Drop(block); next != nil || e != want {
		t.Errorf("Drop(%d) = %v, %d, want %d", block, next, e, want)
	}
}

// full returns a table of size blocks, each of which has a place, and these places.
func full(t *testing.T, size int) (*table.Table, []complex128) {
	t.Helper()
	x, want := blank(t, size), unplaced(size)
	for block := range size {
		want[block] = place(block%24, block%16)
		x = put(t, x, block, want[block])
	}
	return x, want
}

// P8.1: New, Size, Get, All

func TestNewIsBlank(t *testing.T) {
	for size := 1; size <= 32; size++ {
		checkTable(t, blank(t, size), unplaced(size))
	}
}

func TestNewRefusesOtherSizes(t *testing.T) {
	for _, size := range append([]int{0, 33, 34, 40, 64}, extremes...) {
		if x, e := table.New(size); x != nil || e != api.ErrArg {
			t.Errorf("New(%d) = %v, %d, want an ErrArg", size, x, e)
		}
	}
}

func TestGetRefusesOtherBlocks(t *testing.T) {
	for size := 1; size <= 32; size++ {
		x, want := full(t, size)
		for _, block := range append([]int{size, size + 1, 32, 33, 64}, extremes...) {
			if z, has, e := x.Get(block); z != 0 || has || e != api.ErrRange {
				t.Errorf("of %d blocks: Get(%d) = %v, %v, %d, want an ErrRange", size, block, z, has, e)
			}
		}
		checkTable(t, x, want)
	}
}

func TestAllIsNewMemory(t *testing.T) {
	x, want := full(t, 20)
	for range 2 {
		all := x.All()
		memory := all[:cap(all)]
		for i := range memory {
			memory[i] = 5
		}
		checkTable(t, x, want)
	}
	checkTable(t, put(t, x, 0, want[0]), want)
}

// A table that New did not make has no blocks.
func TestZeroTable(t *testing.T) {
	x := new(table.Table)
	checkTable(t, x, nil)
	for _, block := range append([]int{0, 1, 31}, extremes...) {
		checkGet(t, x, block, -1, api.ErrRange)
		checkPutError(t, x, block, 0, api.ErrRange)
		checkDropError(t, x, block, api.ErrRange)
	}
	y, _ := full(t, 32)
	checkShared(t, x, y, 0)
}

func TestNilTable(t *testing.T) {
	var x *table.Table
	if x.Size() != 0 || len(x.All()) != 0 {
		t.Errorf("a nil table has blocks: %d, %v", x.Size(), x.All())
	}
	for _, block := range append([]int{0, 1, 31, 32}, extremes...) {
		checkGet(t, x, block, -1, api.ErrArg)
		checkDropError(t, x, block, api.ErrArg)
		for _, z := range append(notPlaces(), 0, place(23, 15)) {
			checkPutError(t, x, block, z, api.ErrArg)
		}
	}
	y, _ := full(t, 32)
	checkShared(t, x, x, 0)
	checkShared(t, x, y, 0)
}

// P8.2: Put

func TestPutEachBlock(t *testing.T) {
	for size := 1; size <= 32; size++ {
		x := blank(t, size)
		for block := range size {
			want := unplaced(size)
			want[block] = place(23, 15)
			checkTable(t, put(t, x, block, want[block]), want)
		}
		checkTable(t, x, unplaced(size))
	}
}

func TestPutEachPlace(t *testing.T) {
	x, want := blank(t, 10), unplaced(10)
	for segment := range 24 {
		for slot := range 16 {
			want[9] = place(segment, slot)
			x = put(t, x, 9, want[9])
			checkTable(t, x, want)
		}
	}
}

func TestPutReplaces(t *testing.T) {
	x, want := full(t, 20)
	for block := range 20 {
		after := append([]complex128{}, want...)
		after[block] = place(20, 1)
		checkTable(t, put(t, x, block, after[block]), after)
		checkTable(t, x, want)
	}
}

func TestPutRefusesOtherBlocks(t *testing.T) {
	for size := 1; size <= 32; size++ {
		x, want := full(t, size)
		for _, block := range append([]int{size, size + 1, 32, 33, 64}, extremes...) {
			checkPutError(t, x, block, 0, api.ErrRange)
			// The block is told ahead of the place.
			checkPutError(t, x, block, -1, api.ErrRange)
			checkPutError(t, x, block, complex(math.NaN(), math.Inf(1)), api.ErrRange)
		}
		checkTable(t, x, want)
	}
}

func TestPutRefusesOtherPlaces(t *testing.T) {
	blankTable := blank(t, 20)
	fullTable, want := full(t, 20)
	for _, z := range notPlaces() {
		for block := range 20 {
			checkPutError(t, blankTable, block, z, api.ErrForm)
			checkPutError(t, fullTable, block, z, api.ErrForm)
		}
	}
	checkTable(t, blankTable, unplaced(20))
	checkTable(t, fullTable, want)
}

func TestPutReturnsNoNegativeZero(t *testing.T) {
	for _, c := range []struct{ z, want complex128 }{
		{complex(negativeZero, 0), 0}, {complex(0, negativeZero), 0}, {complex(negativeZero, negativeZero), 0},
		{complex(negativeZero, 7), complex(0, 7)}, {complex(7, negativeZero), 7},
	} {
		want := unplaced(3)
		want[1] = c.want
		x := put(t, blank(t, 3), 1, c.z)
		checkTable(t, x, want)
		// The place does not differ, whatever the signs of its zeros.
		checkShared(t, x, put(t, x, 1, c.want), 1)
		checkShared(t, x, put(t, x, 1, c.z), 1)
	}
}

// P8.2: Drop

func TestDropEachBlock(t *testing.T) {
	for size := 1; size <= 32; size++ {
		x, want := full(t, size)
		for block := range size {
			after := append([]complex128{}, want...)
			after[block] = -1
			checkTable(t, drop(t, x, block), after)
		}
		checkTable(t, x, want)
	}
}

func TestDropNothing(t *testing.T) {
	for size := 1; size <= 32; size++ {
		x := blank(t, size)
		for block := range size {
			checkTable(t, drop(t, x, block), unplaced(size))
		}
	}
}

func TestDropRefusesOtherBlocks(t *testing.T) {
	for size := 1; size <= 32; size++ {
		x, want := full(t, size)
		for _, block := range append([]int{size, size + 1, 32, 33, 64}, extremes...) {
			checkDropError(t, x, block, api.ErrRange)
		}
		checkTable(t, x, want)
	}
}

// A page goes with the last of its places, and not ahead of it.
func TestDropLastPlaceOfPage(t *testing.T) {
	for size := 1; size <= 32; size++ {
		x, want := full(t, size)
		for block := range size {
			x, want[block] = drop(t, x, block), -1
			checkTable(t, x, want)
		}
		x, want = full(t, size)
		for block := size - 1; block >= 0; block-- {
			x, want[block] = drop(t, x, block), -1
			checkTable(t, x, want)
		}
	}
}

// The place 0 is a place.
func TestPageOfPlacesZero(t *testing.T) {
	x := put(t, put(t, blank(t, 9), 3, 0), 8, 0)
	checkTable(t, x, []complex128{-1, -1, -1, 0, -1, -1, -1, -1, 0})
	checkTable(t, drop(t, x, 8), []complex128{-1, -1, -1, 0, -1, -1, -1, -1, -1})
}

// P8.2: Shared

func TestSharedAfterPutAndDrop(t *testing.T) {
	for size := 1; size <= 32; size++ {
		x, want := full(t, size)
		pages := (size + 7) / 8
		for block := range size {
			checkShared(t, x, put(t, x, block, place(22, 2)), pages-1)
			checkShared(t, x, put(t, x, block, want[block]), pages)
			checkShared(t, x, drop(t, x, block), pages-1)
		}
	}
}

func TestSharedWithoutPages(t *testing.T) {
	x := blank(t, 32)
	checkShared(t, x, x, 0)
	checkShared(t, x, blank(t, 32), 0)
	for block := range 32 {
		// The page is new, so that the table has none that it could share.
		checkShared(t, x, put(t, x, block, 3), 0)
		checkShared(t, x, drop(t, x, block), 0)
	}
}

func TestSharedAfterDropOfNothing(t *testing.T) {
	x := put(t, put(t, blank(t, 32), 0, 3), 31, 4)
	for block := 1; block < 31; block++ {
		checkShared(t, x, drop(t, x, block), 2)
	}
}

// Equal pages are not shared unless they are one memory.
func TestSharedIsMemory(t *testing.T) {
	a, _ := full(t, 32)
	b, _ := full(t, 32)
	checkShared(t, a, b, 0)
	x := put(t, blank(t, 20), 9, 1)
	first, second := put(t, x, 0, 2), put(t, x, 0, 2)
	checkShared(t, first, second, 1)
	other := put(t, put(t, first, 0, 3), 0, 2)
	checkShared(t, first, other, 1)
	again := put(t, drop(t, first, 9), 9, 1)
	checkShared(t, first, again, 1)
	checkTable(t, again, first.All())
}

// Pages of other blocks, and of tables of another size, are other pages.
func TestSharedOfUnrelated(t *testing.T) {
	for _, size := range []int{1, 8, 9, 16, 17, 31} {
		a, _ := full(t, size)
		b, _ := full(t, 32)
		checkShared(t, a, b, 0)
	}
	checkShared(t, put(t, blank(t, 16), 0, 5), put(t, blank(t, 16), 8, 5), 0)
}

// Every table stays as it was, whatever is made of it.
func TestTablesStay(t *testing.T) {
	x, want := full(t, 32)
	for block := range 32 {
		for next := range 32 {
			y := drop(t, put(t, x, block, place(1, 1)), next)
			put(t, y, (block+1)%32, place(2, 2))
			drop(t, y, block)
		}
		checkTable(t, x, want)
	}
}

// What one call makes of a table does not depend on what others have made of it.
func TestResultsAreSeparate(t *testing.T) {
	x := put(t, blank(t, 8), 0, 1)
	a, b := put(t, x, 1, 2), put(t, x, 2, 3)
	put(t, a, 2, 4)
	drop(t, b, 0)
	checkTable(t, x, []complex128{1, -1, -1, -1, -1, -1, -1, -1})
	checkTable(t, a, []complex128{1, 2, -1, -1, -1, -1, -1, -1})
	checkTable(t, b, []complex128{1, -1, 3, -1, -1, -1, -1, -1})
}

// P8.1, P8.2: against a reference

// reference is what a table should be: its places, and for each page a number that no other memory has, or 0 for no page.
type reference struct {
	x      *table.Table
	places []complex128
	pages  [4]int
}

// next returns the reference with another place; fresh numbers the page if it is new.
func (r reference) next(x *table.Table, block int, z complex128, fresh int) reference {
	old := r.places
	r.x, r.places = x, append([]complex128{}, old...)
	r.places[block] = z
	if old[block] == z {
		return r
	}
	first := block / 8 * 8
	r.pages[block/8] = 0
	for i := first; i < first+8 && i < len(old); i++ {
		if r.places[i] != -1 {
			r.pages[block/8] = fresh
		}
	}
	return r
}

func (r reference) shared(other reference) (n int) {
	for i, page := range r.pages {
		if page != 0 && page == other.pages[i] {
			n++
		}
	}
	return n
}

// dice returns numbers that look random, the same ones for the same seed.
func dice(seed uint32) func(n int) int {
	return func(n int) int {
		seed = seed*1664525 + 1013904223
		return int(seed>>8) % n
	}
}

func TestAgainstTheReference(t *testing.T) {
	for size := 1; size <= 32; size++ {
		roll := dice(uint32(size) * 7919)
		all := []reference{{x: blank(t, size), places: unplaced(size)}}
		for step := 1; step <= 150; step++ {
			// The past is continued as well, so that the tables form a tree.
			from := all[len(all)-1]
			if roll(4) == 0 {
				from = all[roll(len(all))]
			}
			block, z := roll(size), place(roll(3), roll(2))
			if roll(2) == 0 {
				all = append(all, from.next(drop(t, from.x, block), block, -1, step))
			} else {
				all = append(all, from.next(put(t, from.x, block, z), block, z, step))
			}
		}
		for _, a := range all {
			checkTable(t, a.x, a.places)
			for _, b := range all {
				if n := table.Shared(a.x, b.x); n != a.shared(b) {
					t.Fatalf("Shared(%v, %v) = %d, want %d", a.places, b.places, n, a.shared(b))
				}
			}
		}
	}
}

// Each result is a table of its own, even if nothing differs.
func TestResultsAreNewTables(t *testing.T) {
	x, want := full(t, 20)
	if put(t, x, 3, want[3]) == x {
		t.Error("Put returned its own table")
	}
	y := drop(t, x, 3)
	if drop(t, y, 3) == y {
		t.Error("Drop returned its own table")
	}
}
