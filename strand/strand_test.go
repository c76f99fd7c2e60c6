package strand_test

import (
	"math"
	"slices"
	"testing"

	"stopcock/api"
	"stopcock/strand"
)

// extremes have low bits that look like a valid number if a conversion cuts them off.
var extremes = []int{
	-1, -2, -6, -16, -256, -256 + 1, 256, 256 + 1, 1 << 16, 1<<16 + 1, 1 << 20, 1<<32 + 1, 1<<32 + 6, -(1 << 32) + 1,
	math.MaxInt32, math.MinInt32, math.MinInt32 + 1, math.MaxInt, math.MaxInt - 1, math.MinInt, math.MinInt + 1, math.MinInt + 6,
}

var (
	small = api.Plat{Segments: 6, Blocks: 2}
	great = api.Plat{Segments: 24, Blocks: 16}
)

// geometries are all valid ones.
func geometries() []api.Plat {
	var list []api.Plat
	for segments := 6; segments <= 24; segments++ {
		for blocks := 2; blocks <= 16; blocks++ {
			list = append(list, api.Plat{Segments: segments, Blocks: blocks})
		}
	}
	return list
}

// notGeometries have too few or too many segments or blocks, or both.
func notGeometries() []api.Plat {
	list := []api.Plat{{}, {Segments: 5, Blocks: 1}, {Segments: 25, Blocks: 17}, {Segments: 2, Blocks: 6}}
	for _, n := range append([]int{0, 1, 5, 25, 26}, extremes...) {
		list = append(list, api.Plat{Segments: n, Blocks: 2}, api.Plat{Segments: n, Blocks: 16})
	}
	for _, n := range append([]int{0, 1, 17, 18}, extremes...) {
		list = append(list, api.Plat{Segments: 6, Blocks: n}, api.Plat{Segments: 24, Blocks: n})
	}
	return list
}

// dice returns a function that returns numbers from 0 to n - 1, the same ones in each run.
func dice(seed uint64) func(n int) int {
	return func(n int) int {
		seed = seed*6364136223846793005 + 1442695040888963407
		return int(seed>>33) % n
	}
}

// shuffled returns the numbers from 0 to n - 1 in some order.
func shuffled(n int, roll func(n int) int) []int {
	list := make([]int, n)
	for i := range list {
		list[i] = i
	}
	for i := range list {
		j := i + roll(n-i)
		list[i], list[j] = list[j], list[i]
	}
	return list
}

// allOf returns the numbers from 0 to n - 1.
func allOf(n int) []int {
	list := make([]int, n)
	for i := range list {
		list[i] = i
	}
	return list
}

// identical also tells negative zeros from 0.
func identical(a, b complex128) bool {
	return math.Float64bits(real(a)) == math.Float64bits(real(b)) && math.Float64bits(imag(a)) == math.Float64bits(imag(b))
}

// model is a reference for a Strand: what each segment is, and the slots of the head that are left.
type model struct {
	plat api.Plat
	free map[int]bool
	head int
	left []complex128
}

func modelOf(p api.Plat, free ...int) *model {
	m := &model{plat: p, free: map[int]bool{}, head: -1}
	for _, segment := range free {
		m.free[segment] = true
	}
	return m
}

func (m *model) frees() []int {
	var list []int
	for segment := range m.plat.Segments {
		if m.free[segment] {
			list = append(list, segment)
		}
	}
	return list
}

func (m *model) room(spare int) bool {
	if spare < 0 {
		return false
	}
	return len(m.left) != 0 || len(m.frees()) > spare
}

func (m *model) next(spare int) (complex128, api.Errno) {
	if spare < 0 {
		return 0, api.ErrArg
	}
	if !m.room(spare) {
		return 0, api.ErrSpace
	}
	if len(m.left) == 0 {
		m.head = m.frees()[0]
		m.free[m.head] = false
		for slot := range m.plat.Blocks {
			m.left = append(m.left, complex(float64(m.head), float64(slot)))
		}
	}
	z := m.left[0]
	m.left = m.left[1:]
	return z, api.OK
}

func (m *model) release(segment int) api.Errno {
	switch {
	case segment < 0, segment >= m.plat.Segments:
		return api.ErrArg
	case segment == m.head, m.free[segment]:
		return api.ErrBusy
	}
	m.free[segment] = true
	return api.OK
}

// newStrand returns a Strand that must be possible.
func newStrand(t *testing.T, p api.Plat, free ...int) *strand.Strand {
	t.Helper()
	s, e := strand.New(p, free...)
	if s == nil || e != api.OK {
		t.Fatalf("New(%v, %v) = %v, %d", p, free, s, e)
	}
	return s
}

func checkNewRefused(t *testing.T, p api.Plat, free ...int) {
	t.Helper()
	if s, e := strand.New(p, free...); s != nil || e != api.ErrArg {
		t.Fatalf("New(%v, %v) = %v, %d, want nil, %d", p, free, s, e, api.ErrArg)
	}
}

func checkFrees(t *testing.T, s *strand.Strand, want []int, wantHead int) {
	t.Helper()
	if free, head := s.Frees(); !slices.Equal(free, want) || head != wantHead {
		t.Fatalf("Frees() = %v, %d, want %v, %d", free, head, want, wantHead)
	}
}

func checkRoom(t *testing.T, s *strand.Strand, spare int, want bool) {
	t.Helper()
	if room := s.Room(spare); room != want {
		t.Fatalf("Room(%d) = %v, want %v", spare, room, want)
	}
}

func checkNext(t *testing.T, s *strand.Strand, spare int, want complex128, wantE api.Errno) {
	t.Helper()
	if z, e := s.Next(spare); !identical(z, want) || e != wantE {
		t.Fatalf("Next(%d) = %v, %d, want %v, %d", spare, z, e, want, wantE)
	}
}

func checkFree(t *testing.T, s *strand.Strand, segment int, want api.Errno) {
	t.Helper()
	if e := s.Free(segment); e != want {
		t.Fatalf("Free(%d) = %d, want %d", segment, e, want)
	}
}

// checkNoSpace checks that there is no room and that Next says so, whatever is spared, and changes nothing.
func checkNoSpace(t *testing.T, s *strand.Strand, from int) {
	t.Helper()
	free, head := s.Frees()
	for _, spare := range []int{from, from + 1, 24, 256, 1 << 32, math.MaxInt32, math.MaxInt - 1, math.MaxInt} {
		checkRoom(t, s, spare, false)
		checkNext(t, s, spare, 0, api.ErrSpace)
		checkFrees(t, s, free, head)
	}
}

// checkLike compares all that can be asked of a Strand with the model.
func checkLike(t *testing.T, s *strand.Strand, m *model) {
	t.Helper()
	checkFrees(t, s, m.frees(), m.head)
	for _, spare := range []int{math.MinInt, -1, 0, 1, 2, len(m.frees()) - 1, len(m.frees()), len(m.frees()) + 1, math.MaxInt} {
		checkRoom(t, s, spare, m.room(spare))
	}
}

func checkNextLike(t *testing.T, s *strand.Strand, m *model, spare int) {
	t.Helper()
	checkRoom(t, s, spare, m.room(spare))
	want, wantE := m.next(spare)
	checkNext(t, s, spare, want, wantE)
	checkFrees(t, s, m.frees(), m.head)
}

func checkFreeLike(t *testing.T, s *strand.Strand, m *model, segment int) {
	t.Helper()
	checkFree(t, s, segment, m.release(segment))
	checkFrees(t, s, m.frees(), m.head)
}

// P16.1: New, Frees and Room

func TestNewWrittenOut(t *testing.T) {
	for _, c := range []struct{ free, want []int }{
		{nil, nil},
		{[]int{}, nil},
		{[]int{0}, []int{0}},
		{[]int{5}, []int{5}},
		{[]int{4, 1, 3}, []int{1, 3, 4}},
		{[]int{5, 4, 3, 2, 1, 0}, []int{0, 1, 2, 3, 4, 5}},
		{[]int{0, 1, 2, 3, 4, 5}, []int{0, 1, 2, 3, 4, 5}},
		{[]int{2, 5, 0}, []int{0, 2, 5}},
	} {
		s := newStrand(t, small, c.free...)
		checkFrees(t, s, c.want, -1)
		for spare := range 9 {
			checkRoom(t, s, spare, spare < len(c.want))
		}
		checkNoSpace(t, s, len(c.want))
	}
}

// Each set of free segments of the smallest geometry, in both orders.
func TestNewOfEverySet(t *testing.T) {
	for set := range 1 << 6 {
		var free []int
		for segment := range 6 {
			if set>>segment&1 != 0 {
				free = append(free, segment)
			}
		}
		backwards := slices.Clone(free)
		slices.Reverse(backwards)
		for _, list := range [][]int{free, backwards} {
			s := newStrand(t, small, list...)
			checkFrees(t, s, free, -1)
			checkLike(t, s, modelOf(small, list...))
		}
	}
}

func TestNewOfEveryGeometry(t *testing.T) {
	roll := dice(1)
	for _, p := range geometries() {
		checkFrees(t, newStrand(t, p), nil, -1)
		checkFrees(t, newStrand(t, p, shuffled(p.Segments, roll)...), allOf(p.Segments), -1)
		for range 5 {
			free := shuffled(p.Segments, roll)[:roll(p.Segments+1)]
			checkLike(t, newStrand(t, p, free...), modelOf(p, free...))
		}
	}
}

func TestNewRefusesGeometries(t *testing.T) {
	for _, p := range notGeometries() {
		for _, free := range [][]int{nil, {}, {0}, {0, 1, 2}, {0, 0}, {-1}, {24}} {
			checkNewRefused(t, p, free...)
		}
	}
}

// A number that is no segment is refused at each position.
func TestNewRefusesNumbersOfNoSegment(t *testing.T) {
	for _, p := range geometries() {
		for _, wrong := range append([]int{p.Segments, p.Segments + 1, 24, 25}, extremes...) {
			if wrong >= 0 && wrong < p.Segments {
				continue
			}
			checkNewRefused(t, p, wrong)
			for at := range 4 {
				checkNewRefused(t, p, slices.Insert([]int{4, 0, 3}, at, wrong)...)
			}
			checkNewRefused(t, p, append(allOf(p.Segments), wrong)...)
		}
	}
}

// A segment that occurs twice is refused, wherever the two are.
func TestNewRefusesRepeats(t *testing.T) {
	for _, p := range []api.Plat{small, great, {Segments: 6, Blocks: 16}, {Segments: 24, Blocks: 2}} {
		for first := range p.Segments {
			for second := range first {
				free := allOf(p.Segments)
				free[first] = free[second]
				checkNewRefused(t, p, free...)
				checkNewRefused(t, p, first, second, first)
				checkNewRefused(t, p, second, second, first)
			}
			checkNewRefused(t, p, first, first)
			checkNewRefused(t, p, append(allOf(p.Segments), first)...)
		}
		checkNewRefused(t, p, make([]int, 100000)...)
		checkNewRefused(t, p, allOf(100000)...)
	}
}

// Nothing of a negative number is spared, even if the head has a slot left.
func TestNegativeSpare(t *testing.T) {
	full, empty, begun := newStrand(t, small, 0, 1, 2, 3, 4, 5), newStrand(t, small), newStrand(t, small, 3, 4)
	checkNext(t, begun, 0, 3, api.OK)
	for _, n := range append([]int{-3, -24}, extremes...) {
		if n >= 0 {
			continue
		}
		for _, s := range []*strand.Strand{full, empty, begun} {
			checkRoom(t, s, n, false)
			checkNext(t, s, n, 0, api.ErrArg)
		}
	}
	checkFrees(t, full, []int{0, 1, 2, 3, 4, 5}, -1)
	checkFrees(t, empty, nil, -1)
	checkFrees(t, begun, []int{4}, 3)
	checkNext(t, begun, 0, complex(3, 1), api.OK)
}

// With a slot of the head left there is room, however much is spared; with none, that depends on the free segments.
func TestRoomOfTheHead(t *testing.T) {
	for _, p := range geometries() {
		s := newStrand(t, p, 1, 4, 2)
		checkRoom(t, s, 2, true)
		checkRoom(t, s, 3, false)
		for slot := range p.Blocks {
			checkNext(t, s, 2, complex(1, float64(slot)), api.OK)
			left := slot < p.Blocks-1
			checkRoom(t, s, 0, true)
			checkRoom(t, s, 1, true)
			checkRoom(t, s, 2, left)
			checkRoom(t, s, 24, left)
			checkRoom(t, s, math.MaxInt, left)
			checkRoom(t, s, -1, false)
			checkFrees(t, s, []int{2, 4}, 1)
		}
	}
}

// P16.2: Next and Free

func TestNextWrittenOut(t *testing.T) {
	s := newStrand(t, small, 4, 1, 3)
	checkNext(t, s, 3, 0, api.ErrSpace)
	checkNext(t, s, 2, 1, api.OK)
	checkFrees(t, s, []int{3, 4}, 1)
	checkNext(t, s, 9, complex(1, 1), api.OK)
	checkNext(t, s, 2, 0, api.ErrSpace)
	// A full head is the head until another is begun.
	checkFrees(t, s, []int{3, 4}, 1)
	checkFree(t, s, 1, api.ErrBusy)
	checkNext(t, s, 1, 3, api.OK)
	checkFrees(t, s, []int{4}, 3)
	checkFree(t, s, 1, api.OK)
	checkFrees(t, s, []int{1, 4}, 3)
	checkFree(t, s, 3, api.ErrBusy)
	checkNext(t, s, math.MaxInt, complex(3, 1), api.OK)
	checkNoSpace(t, s, 2)
	checkNext(t, s, 1, 1, api.OK)
	checkNext(t, s, 1, complex(1, 1), api.OK)
	checkNext(t, s, 0, 4, api.OK)
	checkNext(t, s, 0, complex(4, 1), api.OK)
	checkFrees(t, s, nil, 4)
	checkNoSpace(t, s, 0)
	checkNext(t, s, -1, 0, api.ErrArg)
	// Segments that were neither free nor the head become free as well.
	checkFree(t, s, 5, api.OK)
	checkFree(t, s, 0, api.OK)
	checkNext(t, s, 2, 0, api.ErrSpace)
	checkNext(t, s, 1, 0, api.OK)
	checkFrees(t, s, []int{5}, 0)
}

// All slots of all segments, in order, until nothing is left.
func TestNextOfEverySlot(t *testing.T) {
	roll := dice(2)
	for _, p := range geometries() {
		s := newStrand(t, p, shuffled(p.Segments, roll)...)
		for segment := range p.Segments {
			for slot := range p.Blocks {
				checkNext(t, s, 0, complex(float64(segment), float64(slot)), api.OK)
				checkFrees(t, s, allOf(p.Segments)[segment+1:], segment)
			}
		}
		checkNoSpace(t, s, 0)
		checkNext(t, s, -1, 0, api.ErrArg)
	}
}

// So many segments as are spared are still free when there is no more space.
func TestNextLeavesSpare(t *testing.T) {
	for _, p := range []api.Plat{small, great} {
		for spare := range p.Segments + 1 {
			s := newStrand(t, p, allOf(p.Segments)...)
			head := p.Segments - spare - 1
			for segment := range head + 1 {
				for slot := range p.Blocks {
					checkNext(t, s, spare, complex(float64(segment), float64(slot)), api.OK)
				}
			}
			checkNoSpace(t, s, spare)
			checkFrees(t, s, allOf(p.Segments)[head+1:], head)
			if spare > 0 {
				checkNext(t, s, spare-1, complex(float64(head+1), 0), api.OK)
			}
		}
	}
}

// The smallest free segment is begun, also if it became free later than others or is before the head.
func TestNextTakesTheSmallest(t *testing.T) {
	s := newStrand(t, great, 20)
	for slot := range 16 {
		checkNext(t, s, 0, complex(20, float64(slot)), api.OK)
	}
	for _, segment := range []int{23, 10, 21, 0, 19} {
		checkFree(t, s, segment, api.OK)
	}
	checkFrees(t, s, []int{0, 10, 19, 21, 23}, 20)
	for _, segment := range []int{0, 10, 19, 21, 23} {
		for slot := range 16 {
			checkNext(t, s, 0, complex(float64(segment), float64(slot)), api.OK)
		}
	}
	checkNoSpace(t, s, 0)
}

// What becomes free while the head has slots left changes nothing about the head.
func TestFreeWhileTheHeadIsWritten(t *testing.T) {
	s := newStrand(t, api.Plat{Segments: 6, Blocks: 4}, 3, 4)
	checkNext(t, s, 1, 3, api.OK)
	checkFree(t, s, 0, api.OK)
	checkNext(t, s, 0, complex(3, 1), api.OK)
	checkFree(t, s, 5, api.OK)
	checkNext(t, s, 0, complex(3, 2), api.OK)
	checkFree(t, s, 3, api.ErrBusy)
	checkNext(t, s, 9, complex(3, 3), api.OK)
	checkFrees(t, s, []int{0, 4, 5}, 3)
	checkNext(t, s, 2, 0, api.OK)
	checkFree(t, s, 3, api.OK)
	checkFrees(t, s, []int{3, 4, 5}, 0)
}

func TestFreeOfEverySegment(t *testing.T) {
	for _, p := range geometries() {
		s := newStrand(t, p)
		for i := range p.Segments {
			segment := p.Segments - 1 - i
			checkFree(t, s, segment, api.OK)
			checkFree(t, s, segment, api.ErrBusy)
			checkFrees(t, s, allOf(p.Segments)[segment:], -1)
			checkRoom(t, s, i, true)
			checkRoom(t, s, i+1, false)
		}
		checkNext(t, s, p.Segments-1, 0, api.OK)
		for segment := range p.Segments {
			checkFree(t, s, segment, api.ErrBusy)
		}
		checkFrees(t, s, allOf(p.Segments)[1:], 0)
	}
}

func TestFreeRefusesNumbersOfNoSegment(t *testing.T) {
	for _, p := range geometries() {
		s := newStrand(t, p, 2)
		for _, wrong := range append([]int{p.Segments, p.Segments + 1, 24, 25}, extremes...) {
			if wrong < 0 || wrong >= p.Segments {
				checkFree(t, s, wrong, api.ErrArg)
			}
		}
		checkFrees(t, s, []int{2}, -1)
		checkNext(t, s, 0, 2, api.OK)
		checkFree(t, s, p.Segments, api.ErrArg)
		checkFree(t, s, -1, api.ErrArg)
		checkFrees(t, s, nil, 2)
	}
}

// P16.1 and P16.2 together

// Every series of seven calls on the smallest geometry, with some segments free at the beginning.
func TestEverySeries(t *testing.T) {
	calls := []func(t *testing.T, s *strand.Strand, m *model){
		func(t *testing.T, s *strand.Strand, m *model) { checkNextLike(t, s, m, 0) },
		func(t *testing.T, s *strand.Strand, m *model) { checkNextLike(t, s, m, 1) },
		func(t *testing.T, s *strand.Strand, m *model) { checkFreeLike(t, s, m, 0) },
		func(t *testing.T, s *strand.Strand, m *model) { checkFreeLike(t, s, m, 1) },
		func(t *testing.T, s *strand.Strand, m *model) { checkFreeLike(t, s, m, 5) },
	}
	for _, free := range [][]int{nil, {1}, {5, 0}} {
		for number := range 5 * 5 * 5 * 5 * 5 * 5 * 5 {
			s, m := newStrand(t, small, free...), modelOf(small, free...)
			for range 7 {
				calls[number%5](t, s, m)
				number /= 5
			}
		}
	}
}

func TestLongSeries(t *testing.T) {
	roll := dice(3)
	for _, p := range geometries() {
		free := shuffled(p.Segments, roll)[:roll(p.Segments+1)]
		s, m := newStrand(t, p, free...), modelOf(p, free...)
		for range 400 {
			if roll(4) != 0 {
				checkNextLike(t, s, m, roll(4)-roll(2))
			} else {
				checkFreeLike(t, s, m, roll(p.Segments+2)-1)
			}
		}
		checkLike(t, s, m)
	}
}

// Segments are freed as fast as they are written: places are never used up.
func TestSegmentsAreUsedAgain(t *testing.T) {
	for _, p := range []api.Plat{small, great, {Segments: 7, Blocks: 3}} {
		s, m := newStrand(t, p, 0, 1, 2), modelOf(p, 0, 1, 2)
		old := -1
		for range 10000 {
			checkNextLike(t, s, m, 1)
			if _, head := s.Frees(); head != old {
				if old >= 0 {
					checkFreeLike(t, s, m, old)
				}
				old = head
			}
		}
	}
}

// Rules R1, R4 and R5

func TestNilStrand(t *testing.T) {
	var s *strand.Strand
	for _, n := range append([]int{0, 1, 2, 5, 6, 23, 24}, extremes...) {
		checkNext(t, s, n, 0, api.ErrArg)
		checkRoom(t, s, n, false)
		checkFree(t, s, n, api.ErrArg)
	}
	checkFrees(t, s, nil, -1)
}

// A Strand that New did not make has no segments.
func TestZeroStrand(t *testing.T) {
	s := &strand.Strand{}
	for _, n := range append([]int{0, 1, 2, 5, 6, 23, 24}, extremes...) {
		want := api.ErrSpace
		if n < 0 {
			want = api.ErrArg
		}
		checkNext(t, s, n, 0, want)
		checkRoom(t, s, n, false)
		checkFree(t, s, n, api.ErrArg)
	}
	checkFrees(t, s, nil, -1)
}

// The list of New stays as it is, with its spare capacity, and is not kept.
func TestArgumentsUnchanged(t *testing.T) {
	memory := []int{4, 1, 3, 77, 77, 77}
	s := newStrand(t, small, memory[:3]...)
	checkFree(t, s, 5, api.OK)
	checkFree(t, s, 0, api.OK)
	checkNext(t, s, 0, 0, api.OK)
	if !slices.Equal(memory, []int{4, 1, 3, 77, 77, 77}) {
		t.Fatalf("the list of New is %v", memory)
	}
	for i := range memory {
		memory[i] = 2
	}
	checkFrees(t, s, []int{1, 3, 4, 5}, 0)
	refused := []int{4, 1, 1, 77}
	checkNewRefused(t, small, refused[:3]...)
	if !slices.Equal(refused, []int{4, 1, 1, 77}) {
		t.Fatalf("the list of New is %v", refused)
	}
}

// What Frees returned is the caller's, with its spare capacity, before and after changes.
func TestResultsShareNothing(t *testing.T) {
	roll := dice(4)
	for _, p := range []api.Plat{small, great} {
		s, m := newStrand(t, p, 3, 1, 5), modelOf(p, 3, 1, 5)
		for range 200 {
			free, _ := s.Frees()
			again, _ := s.Frees()
			kept := slices.Clone(again)
			for i := range free[:cap(free)] {
				free[:cap(free)][i] = 99
			}
			if !slices.Equal(again, kept) {
				t.Fatalf("two results of Frees share memory: %v", again)
			}
			checkFrees(t, s, m.frees(), m.head)
			checkFreeLike(t, s, m, roll(p.Segments))
			checkNextLike(t, s, m, 0)
			if !slices.Equal(again, kept) {
				t.Fatalf("a call changed what Frees had returned: %v", again)
			}
		}
	}
}

// Strands of the same list do not affect one another, and the same calls have the same results.
func TestAlwaysSame(t *testing.T) {
	free := []int{5, 2, 0}
	first, second := newStrand(t, small, free...), newStrand(t, small, free...)
	want := modelOf(small, free...)
	for range 4 {
		checkNextLike(t, first, want, 0)
	}
	checkFreeLike(t, first, want, 4)
	checkFrees(t, second, []int{0, 2, 5}, -1)
	again := modelOf(small, free...)
	for range 4 {
		checkNextLike(t, second, again, 0)
	}
	checkFreeLike(t, second, again, 4)
	checkLike(t, second, want)
	checkLike(t, first, want)
}
