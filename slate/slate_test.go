package slate_test

import (
	"bytes"
	"math"
	"slices"
	"testing"

	"stopcock/api"
	"stopcock/basin"
	"stopcock/leaf"
	"stopcock/seal"
	"stopcock/slate"
)

// The limits are written as numbers: one that the program misreads shows.
const (
	greatestSeq = 1073741824
	areaSize    = 12
	mostLeaves  = 11
)

var (
	small = api.Plat{Segments: 6, Blocks: 2}
	great = api.Plat{Segments: 24, Blocks: 16}
)

// seqs are for both areas, and have bits in each of their bytes.
var seqs = []int{1, 2, 3, 4, 255, 256, 65535, 65536, 0x01020304, 0x3F3E3D3D, greatestSeq - 1, greatestSeq}

// notSeqs have low bits that look like a valid seq if a conversion cuts them off.
var notSeqs = []int{0, -1, -2, greatestSeq + 1, greatestSeq + 2, 1<<32 + 1, -(1 << 32) + 1, math.MaxInt, math.MinInt, math.MinInt + 1}

// dice returns a function that returns numbers from 0 to n - 1, the same ones in each run.
func dice(seed uint64) func(n int) int {
	return func(n int) int {
		seed = seed*6364136223846793005 + 1442695040888963407
		return int(seed>>33) % n
	}
}

func place(segment, slot int) complex128 { return complex(float64(segment), float64(slot)) }

// stateOf returns a state of the great geometry with so many leaves, all of which differ between tags.
func stateOf(leaves, tag int) api.State {
	var s api.State
	blocks := min(26*leaves-8, 8*32)
	for id := 0; blocks > 0; id++ {
		size := min(blocks, 32)
		s.Entries[id] = api.Entry{Kind: 1 + tag%2, Size: size}
		s.Places[id] = slices.Repeat([]complex128{place(tag%24, tag/24%16)}, size)
		blocks -= size
	}
	return s
}

// changed returns a state that differs from s in one of its leaves alone.
func changed(s api.State, roll func(int) int) api.State {
	for id := range s.Places {
		s.Places[id] = slices.Clone(s.Places[id])
	}
	id := roll(8)
	for s.Entries[id].Size == 0 {
		id = roll(8)
	}
	s.Places[id][roll(s.Entries[id].Size)] = place(roll(24), roll(16))
	return s
}

func sameState(a, b api.State) bool {
	for id := range a.Places {
		if !slices.Equal(a.Places[id], b.Places[id]) {
			return false
		}
	}
	return a.Entries == b.Entries
}

func newDevice(t *testing.T, sectors int) *basin.Basin {
	t.Helper()
	d, e := basin.New(sectors)
	if e != api.OK {
		t.Fatalf("New(%d) = %d", sectors, e)
	}
	return d
}

// filled returns a device of which no sector is blank, or like another one.
func filled(t *testing.T, sectors int) *basin.Basin {
	t.Helper()
	d := newDevice(t, sectors)
	for at := range sectors {
		put(t, d, at, bytes.Repeat([]byte{byte(at + 1), byte(at >> 8)}, 32))
	}
	flush(t, d)
	return d
}

func put(t *testing.T, d *basin.Basin, at int, pages ...[]byte) {
	t.Helper()
	for i, page := range pages {
		if e := d.Put(api.Write{At: at + i, Data: page}); e != api.OK {
			t.Fatalf("Put at %d = %d", at+i, e)
		}
	}
}

func flush(t *testing.T, d *basin.Basin) {
	t.Helper()
	if e := d.Flush(); e != api.OK {
		t.Fatalf("Flush() = %d", e)
	}
}

// content returns all sectors.
func content(t *testing.T, d *basin.Basin) [][]byte {
	t.Helper()
	var list [][]byte
	for at := range d.Size() {
		sector, e := d.Get(at)
		if e != api.OK {
			t.Fatalf("Get(%d) = %d", at, e)
		}
		list = append(list, sector)
	}
	return list
}

func sameSectors(a, b [][]byte) bool { return slices.EqualFunc(a, b, bytes.Equal) }

// pagesOf returns the pages of a state that fits.
func pagesOf(t *testing.T, s api.State, p api.Plat, seq int) [][]byte {
	t.Helper()
	pages, e := leaf.Encode(s, p, seq)
	if e != api.OK {
		t.Fatalf("Encode(%v, %v, %d) = %d", s, p, seq, e)
	}
	return pages
}

func save(t *testing.T, d *basin.Basin, s api.State, p api.Plat, seq int) {
	t.Helper()
	checkSave(t, d, s, p, seq, api.OK)
}

func checkSave(t *testing.T, d *basin.Basin, s api.State, p api.Plat, seq int, want api.Errno) {
	t.Helper()
	if e := slate.Save(d, s, p, seq); e != want {
		t.Fatalf("Save(%v, %v, %d) = %d, want %d", s, p, seq, e, want)
	}
}

func checkLoad(t *testing.T, d *basin.Basin, wantS api.State, wantP api.Plat, wantSeq int) {
	t.Helper()
	if s, p, seq, e := slate.Load(d); e != api.OK || p != wantP || seq != wantSeq || !sameState(s, wantS) {
		t.Fatalf("Load() = %v, %v, %d, %d, want %v, %v, %d, 0", s, p, seq, e, wantS, wantP, wantSeq)
	}
}

func checkNoLoad(t *testing.T, d *basin.Basin, want api.Errno) {
	t.Helper()
	s, p, seq, e := slate.Load(d)
	if e != want || p != (api.Plat{}) || seq != 0 || !sameState(s, api.State{}) {
		t.Fatalf("Load() = %v, %v, %d, %d, want %d", s, p, seq, e, want)
	}
}

func checkLoose(t *testing.T, d *basin.Basin, want int) {
	t.Helper()
	if n := d.Loose(); n != want {
		t.Fatalf("%d writes are loose, want %d", n, want)
	}
}

func checkContent(t *testing.T, d *basin.Basin, want [][]byte) {
	t.Helper()
	for at, sector := range content(t, d) {
		if !bytes.Equal(sector, want[at]) {
			t.Fatalf("sector %d is %x, want %x", at, sector, want[at])
		}
	}
}

// with returns the sectors, with other ones from one of them on.
func with(sectors [][]byte, at int, pages ...[]byte) [][]byte {
	list := slices.Clone(sectors)
	copy(list[at:], pages)
	return list
}

// P14.1

func TestSaveWrittenOut(t *testing.T) {
	p := api.Plat{Segments: 9, Blocks: 4}
	for area := range 2 {
		d := newDevice(t, 60)
		save(t, d, api.State{}, p, 0x01020304+area)
		text := make([]byte, 16)
		sum := seal.Sum(text)
		want := slices.Repeat([][]byte{make([]byte, 64)}, 60)
		seq := string([]byte{1, 2, 3, 4 + byte(area)})
		header, _ := seal.Close([]byte("SLAT" + seq + "\x09\x04\x01\x00\x10" + string([]byte{byte(sum >> 24), byte(sum >> 16), byte(sum >> 8), byte(sum)})))
		page, _ := seal.Close([]byte(seq + "\x00\x10" + string(text)))
		want[12*area], want[12*area+1] = header, page
		checkContent(t, d, want)
	}
}

// The pages are in the area of the seq, and durable; all other sectors stay as they are.
func TestSave(t *testing.T) {
	for _, seq := range seqs {
		for leaves := 1; leaves <= mostLeaves; leaves++ {
			s := stateOf(leaves, leaves+seq%300)
			pages := pagesOf(t, s, great, seq)
			if len(pages) != 1+leaves {
				t.Fatalf("there are %d pages, want %d leaves", len(pages), leaves)
			}
			d := filled(t, 60)
			want := with(content(t, d), areaSize*(seq%2), pages...)
			save(t, d, s, great, seq)
			checkLoose(t, d, 0)
			checkContent(t, d, want)
			d.Crash()
			checkContent(t, d, want)
		}
	}
}

// What was loose before is durable as well.
func TestSaveFlushesEverything(t *testing.T) {
	d := newDevice(t, 60)
	put(t, d, 50, bytes.Repeat([]byte{5}, 64))
	save(t, d, api.State{}, small, 1)
	checkLoose(t, d, 0)
	d.Crash()
	if sector, e := d.Get(50); e != api.OK || sector[0] != 5 {
		t.Errorf("sector 50 is %x, %d", sector, e)
	}
}

// Without power after so many writes and flushes, exactly those before were performed, in their order.
func TestOrderOfWrites(t *testing.T) {
	for seq := 6; seq <= 7; seq++ {
		for leaves := 1; leaves <= mostLeaves; leaves++ {
			for cut := range leaves + 4 {
				checkCut(t, leaves, seq, cut)
			}
		}
	}
}

func checkCut(t *testing.T, leaves, seq, cut int) {
	t.Helper()
	s := stateOf(leaves, 30)
	pages := pagesOf(t, s, great, seq)
	first := areaSize * (seq % 2)
	interrupted := func() (*basin.Basin, [][]byte) {
		d := filled(t, 60)
		before := content(t, d)
		d.Fail(cut)
		want := api.ErrDown
		if cut == leaves+3 {
			want = api.OK
		}
		checkSave(t, d, s, great, seq, want)
		return d, before
	}
	switch {
	case cut <= leaves:
		for n := range cut {
			d, before := interrupted()
			checkLoose(t, d, cut)
			d.Crash(n)
			checkContent(t, d, with(before, first+1+n, pages[1+n]))
		}
	case cut == leaves+1:
		d, before := interrupted()
		checkLoose(t, d, 0)
		d.Crash()
		checkContent(t, d, with(before, first+1, pages[1:]...))
	case cut == leaves+2:
		d, before := interrupted()
		checkLoose(t, d, 1)
		d.Crash()
		checkContent(t, d, with(before, first+1, pages[1:]...))
		d, before = interrupted()
		d.Crash(0)
		checkContent(t, d, with(before, first, pages...))
	default:
		d, before := interrupted()
		checkLoose(t, d, 0)
		d.Crash()
		checkContent(t, d, with(before, first, pages...))
	}
}

// fault is a call of Save that leaf.Encode refuses.
type fault struct {
	s    api.State
	p    api.Plat
	seq  int
	want api.Errno
}

func faults() []fault {
	unsound := api.State{Entries: [8]api.Entry{{Kind: 1, Size: 2}}}
	notPlace := stateOf(1, 1)
	notPlace.Places[0][3] = complex(math.NaN(), math.Inf(1))
	var outside, full api.State
	outside.Entries[3], outside.Places[3] = api.Entry{Kind: 2, Size: 1}, []complex128{place(6, 0)}
	full.Entries[0], full.Places[0] = api.Entry{Kind: 1, Size: 5}, []complex128{0, 1, 2, 3, 4}
	list := []fault{
		{unsound, great, 1, api.ErrForm},
		{notPlace, great, 2, api.ErrForm},
		{outside, small, 1, api.ErrRange},
		{full, small, 2, api.ErrSpace},
		{unsound, api.Plat{}, 1, api.ErrArg},
	}
	for _, n := range []int{math.MinInt, -1, 0, 1, 25, 256 + 6, math.MaxInt} {
		list = append(list, fault{p: api.Plat{Segments: n, Blocks: 2}, seq: 1, want: api.ErrArg})
		list = append(list, fault{p: api.Plat{Segments: 6, Blocks: n}, seq: 2, want: api.ErrArg})
	}
	for _, seq := range notSeqs {
		list = append(list, fault{api.State{}, small, seq, api.ErrArg}, fault{full, small, seq, api.ErrArg}, fault{outside, small, seq, api.ErrArg}, fault{unsound, great, seq, api.ErrArg})
	}
	return list
}

// What Encode refuses is not written: the attempt of a write would take the power.
func TestSaveRefuses(t *testing.T) {
	for _, f := range faults() {
		for _, sectors := range []int{1, 5, 24, 60} {
			d := filled(t, sectors)
			put(t, d, 0, make([]byte, 64))
			want := content(t, d)
			d.Fail(0)
			checkSave(t, d, f.s, f.p, f.seq, f.want)
			checkLoose(t, d, 1)
			checkContent(t, d, want)
		}
	}
}

func TestSaveWithoutDevice(t *testing.T) {
	checkSave(t, nil, api.State{}, small, 1, api.ErrArg)
	checkSave(t, nil, stateOf(11, 5), great, 2, api.ErrArg)
	for _, f := range faults() {
		checkSave(t, nil, f.s, f.p, f.seq, api.ErrArg)
	}
}

func TestSaveWithoutPower(t *testing.T) {
	for _, sectors := range []int{1, 2, 13, 60} {
		d := filled(t, sectors)
		want := content(t, d)
		d.Fail(0)
		d.Flush()
		for range 2 {
			checkSave(t, d, stateOf(3, 1), great, 1, api.ErrDown)
			checkSave(t, d, stateOf(11, 1), great, 2, api.ErrDown)
			for _, f := range faults() {
				checkSave(t, d, f.s, f.p, f.seq, f.want)
			}
		}
		d.Crash()
		checkContent(t, d, want)
	}
}

// On a device that ends within the area the leaves that have a sector are written, and neither flushed nor followed by the header.
func TestSaveOnShortDevices(t *testing.T) {
	for sectors := 1; sectors <= 24; sectors++ {
		for leaves := 1; leaves <= mostLeaves; leaves++ {
			for area := range 2 {
				s, seq := stateOf(leaves, 9), 8+area
				first := areaSize * area
				there := max(0, sectors-first-1)
				d := filled(t, sectors)
				before := content(t, d)
				pages := pagesOf(t, s, great, seq)
				if there >= leaves {
					save(t, d, s, great, seq)
					checkContent(t, d, with(before, first, pages...))
					checkLoad(t, d, s, great, seq)
					continue
				}
				checkSave(t, d, s, great, seq, api.ErrRange)
				checkLoose(t, d, there)
				if there > 0 {
					checkContent(t, d, with(before, first+1, pages[1:1+there]...))
				}
				d.Crash()
				checkContent(t, d, before)
				for cut := range there + 2 {
					d.Fail(cut)
					want := api.ErrDown
					if cut >= there {
						// It is the first error: no write without a sector takes power.
						want = api.ErrRange
					}
					checkSave(t, d, s, great, seq, want)
					d.Crash()
				}
			}
		}
	}
}

// The device may have fewer sectors, or more, than the geometry needs.
func TestSaveOfAnyGeometry(t *testing.T) {
	for segments := 6; segments <= 24; segments++ {
		for blocks := 2; blocks <= 16; blocks++ {
			p := api.Plat{Segments: segments, Blocks: blocks}
			for _, sectors := range []int{24, 424} {
				d := newDevice(t, sectors)
				var s api.State
				s.Entries[7], s.Places[7] = api.Entry{Kind: 1, Size: 2}, []complex128{-1, place(segments-1, blocks-1)}
				save(t, d, s, p, segments)
				checkLoad(t, d, s, p, segments)
			}
		}
	}
}

// P14.2

func TestLoadWithoutDevice(t *testing.T) {
	checkNoLoad(t, nil, api.ErrArg)
}

func TestLoadWithoutPower(t *testing.T) {
	for _, sectors := range []int{1, 2, 12, 13, 24, 60, 424} {
		d := newDevice(t, sectors)
		slate.Save(d, api.State{}, small, 2)
		slate.Save(d, api.State{}, small, 3)
		d.Fail(0)
		d.Flush()
		checkNoLoad(t, d, api.ErrDown)
		checkNoLoad(t, d, api.ErrDown)
		d.Crash()
		if sectors == 1 {
			checkNoLoad(t, d, api.ErrCorrupt)
		} else if _, _, _, e := slate.Load(d); e != api.OK {
			t.Errorf("%d sectors: Load() = %d", sectors, e)
		}
	}
}

// A device that was not made by New has no sectors.
func TestDeviceWithoutSectors(t *testing.T) {
	d := &basin.Basin{}
	checkNoLoad(t, d, api.ErrCorrupt)
	checkSave(t, d, api.State{}, small, 1, api.ErrRange)
	checkNoLoad(t, d, api.ErrCorrupt)
	d.Fail(0)
	d.Flush()
	checkNoLoad(t, d, api.ErrDown)
}

func TestLoadOfBlankDevices(t *testing.T) {
	for sectors := 1; sectors <= 424; sectors++ {
		checkNoLoad(t, newDevice(t, sectors), api.ErrCorrupt)
		checkNoLoad(t, filled(t, min(sectors, 30)), api.ErrCorrupt)
	}
}

// Of two checkpoints the one with the greater seq counts, whichever area it is in, and whichever was saved last.
func TestNewestCounts(t *testing.T) {
	for _, a := range seqs {
		for _, b := range seqs {
			if a%2 == b%2 {
				continue
			}
			d := newDevice(t, 60)
			save(t, d, stateOf(3, 10), great, a)
			checkLoad(t, d, stateOf(3, 10), great, a)
			save(t, d, stateOf(2, 11), great, b)
			if a > b {
				checkLoad(t, d, stateOf(3, 10), great, a)
			} else {
				checkLoad(t, d, stateOf(2, 11), great, b)
			}
		}
	}
}

// In one area the last one counts, and nothing of the one before is left, even if that had more pages or a greater seq.
func TestSavedOver(t *testing.T) {
	for before := 1; before <= mostLeaves; before++ {
		for leaves := 1; leaves <= mostLeaves; leaves++ {
			for _, seq := range []int{4, 6, 8} {
				d := newDevice(t, 60)
				save(t, d, stateOf(before, 20), great, 6)
				save(t, d, stateOf(leaves, 21), great, seq)
				checkLoad(t, d, stateOf(leaves, 21), great, seq)
			}
		}
	}
}

func TestLoadsInTurn(t *testing.T) {
	d := newDevice(t, 60)
	roll := dice(3)
	for seq := 1; seq <= 400; seq++ {
		s := changed(stateOf(1+roll(mostLeaves), roll(384)), roll)
		save(t, d, s, great, seq)
		checkLoad(t, d, s, great, seq)
	}
}

// Each byte of the newest checkpoint in turn is damaged: then the other one counts, or none.
func TestDamaged(t *testing.T) {
	for seq := 8; seq <= 9; seq++ {
		d, alone := newDevice(t, 60), newDevice(t, 60)
		old, s := stateOf(2, 4), stateOf(3, 5)
		save(t, d, old, great, seq-1)
		save(t, d, s, great, seq)
		save(t, alone, s, great, seq)
		for i, page := range pagesOf(t, s, great, seq) {
			at := areaSize*(seq%2) + i
			for n := range page {
				damaged := slices.Clone(page)
				damaged[n] ^= 1 << (n % 8)
				put(t, d, at, damaged)
				put(t, alone, at, damaged)
				checkLoad(t, d, old, great, seq-1)
				checkNoLoad(t, alone, api.ErrCorrupt)
			}
			put(t, d, at, page)
			put(t, alone, at, page)
			checkLoad(t, d, s, great, seq)
			checkLoad(t, alone, s, great, seq)
		}
	}
}

func TestBothDamaged(t *testing.T) {
	for a := range 3 {
		for b := range 4 {
			d := newDevice(t, 60)
			save(t, d, stateOf(2, 4), great, 10)
			save(t, d, stateOf(3, 5), great, 11)
			put(t, d, a, make([]byte, 64))
			put(t, d, areaSize+b, make([]byte, 64))
			checkNoLoad(t, d, api.ErrCorrupt)
		}
	}
}

// A checkpoint in the area of the other seqs is none, whatever its seq.
func TestWrongArea(t *testing.T) {
	for _, seq := range seqs {
		for area := range 2 {
			s := stateOf(4, 50)
			d := newDevice(t, 60)
			put(t, d, areaSize*area, pagesOf(t, s, great, seq)...)
			if area == seq%2 {
				checkLoad(t, d, s, great, seq)
				continue
			}
			checkNoLoad(t, d, api.ErrCorrupt)
			// Neither does it hide the one in the other area.
			lower := max(seq-2, 1+(seq+1)%2)
			put(t, d, areaSize*(lower%2), pagesOf(t, stateOf(2, 51), great, lower)...)
			checkLoad(t, d, stateOf(2, 51), great, lower)
		}
	}
}

// Pages that begin one sector too early or too late are none.
func TestShiftedPages(t *testing.T) {
	pages := pagesOf(t, stateOf(4, 50), great, 7)
	for at := range 50 {
		d := newDevice(t, 60)
		put(t, d, at, pages...)
		if at == areaSize {
			checkLoad(t, d, stateOf(4, 50), great, 7)
		} else {
			checkNoLoad(t, d, api.ErrCorrupt)
		}
	}
}

// What is behind the pages that a header states does not matter.
func TestLoadLooksNoFurther(t *testing.T) {
	for leaves := 1; leaves <= mostLeaves; leaves++ {
		for seq := 8; seq <= 9; seq++ {
			pages := pagesOf(t, stateOf(leaves, 50), great, seq)
			for sectors := 1; sectors <= 25; sectors++ {
				d := filled(t, sectors)
				last := min(areaSize*(seq%2)+len(pages), sectors)
				for at := areaSize * (seq % 2); at < last; at++ {
					put(t, d, at, pages[at%areaSize])
				}
				if sectors >= areaSize*(seq%2)+len(pages) {
					checkLoad(t, d, stateOf(leaves, 50), great, seq)
				} else {
					checkNoLoad(t, d, api.ErrCorrupt)
				}
			}
		}
	}
}

// Headers that state other numbers of leaves are those of no checkpoint, whatever sectors there are.
func TestHeadersThatStateOtherNumbers(t *testing.T) {
	for seq := 8; seq <= 9; seq++ {
		for _, sectors := range []int{12*(seq%2) + 1, 24, 60} {
			pages := pagesOf(t, stateOf(mostLeaves, 50), great, seq)
			for count := range 256 {
				d := newDevice(t, sectors)
				body := slices.Clone(pages[0][:60])
				body[10] = byte(count)
				header, _ := seal.Close(body)
				put(t, d, areaSize*(seq%2), header)
				for i := 1; i < len(pages) && sectors > areaSize*(seq%2)+1; i++ {
					put(t, d, areaSize*(seq%2)+i, pages[i])
				}
				if count == mostLeaves && sectors >= 24 {
					checkLoad(t, d, stateOf(mostLeaves, 50), great, seq)
				} else {
					checkNoLoad(t, d, api.ErrCorrupt)
				}
			}
		}
	}
}

// A header of a seq that is none is none, as is one without its leaves.
func TestHeadersOfOtherSeqs(t *testing.T) {
	pages := pagesOf(t, stateOf(1, 50), great, 7)
	for _, seq := range []uint32{0, 1, 5, 7, 9, greatestSeq - 1, greatestSeq + 1, 1<<31 + 7, math.MaxUint32} {
		d := newDevice(t, 60)
		body := slices.Clone(pages[0][:60])
		body[4], body[5], body[6], body[7] = byte(seq>>24), byte(seq>>16), byte(seq>>8), byte(seq)
		header, _ := seal.Close(body)
		put(t, d, areaSize, header, pages[1])
		if seq == 7 {
			checkLoad(t, d, stateOf(1, 50), great, 7)
		} else {
			checkNoLoad(t, d, api.ErrCorrupt)
		}
	}
}

// The sectors are those that were last written, durable or not.
func TestLoadOfLooseWrites(t *testing.T) {
	d := newDevice(t, 60)
	save(t, d, stateOf(3, 1), great, 1)
	put(t, d, 0, pagesOf(t, stateOf(2, 2), great, 2)...)
	checkLoad(t, d, stateOf(2, 2), great, 2)
	checkLoose(t, d, 3)
	d.Crash()
	checkLoad(t, d, stateOf(3, 1), great, 1)
}

// Load neither writes nor flushes: the attempt would take the power.
func TestLoadChangesNothing(t *testing.T) {
	for _, sectors := range []int{1, 5, 12, 24, 60} {
		d := filled(t, sectors)
		slate.Save(d, stateOf(3, 1), great, 1)
		slate.Save(d, stateOf(2, 1), great, 2)
		put(t, d, 0, make([]byte, 64))
		loose, before := d.Loose(), content(t, d)
		d.Fail(0)
		for range 3 {
			slate.Load(d)
			checkLoose(t, d, loose)
			checkContent(t, d, before)
		}
	}
}

// newestOf is a reference for Load: of all runs of sectors that Decode accepts it takes the one with the greatest seq.
func newestOf(sectors [][]byte) (s api.State, p api.Plat, seq int) {
	for area := range 2 {
		for n := 1; n <= areaSize; n++ {
			if areaSize*area+n > len(sectors) {
				break
			}
			state, plat, number, e := leaf.Decode(sectors[areaSize*area:][:n])
			if e == api.OK && number%2 == area && number > seq {
				s, p, seq = state, plat, number
			}
		}
	}
	return s, p, seq
}

// checkNewest checks Load against the reference, and returns the seq.
func checkNewest(t *testing.T, d *basin.Basin) int {
	t.Helper()
	s, p, seq := newestOf(content(t, d))
	if seq == 0 {
		checkNoLoad(t, d, api.ErrCorrupt)
	} else {
		checkLoad(t, d, s, p, seq)
	}
	return seq
}

// Areas that are mixed of the pages of several checkpoints, of seqs of both areas, and of noise.
func TestMixedPages(t *testing.T) {
	roll := dice(4)
	found := map[int]int{}
	for range 6000 {
		d := newDevice(t, 2+roll(30))
		for area := range 2 {
			pages := pagesOf(t, stateOf(1+roll(3), roll(2)), great, 5+roll(5))
			other := pagesOf(t, stateOf(1+roll(3), roll(2)), great, 5+roll(5))
			for i := range areaSize {
				page := make([]byte, 64)
				if i < len(pages) {
					page = pages[i]
				}
				if i < len(other) && roll(8) == 0 {
					page = other[i]
				}
				if areaSize*area+i < d.Size() {
					put(t, d, areaSize*area+i, page)
				}
			}
		}
		found[checkNewest(t, d)]++
	}
	for _, seq := range []int{0, 5, 6, 7, 8, 9} {
		if found[seq] < 20 {
			t.Errorf("seq %d was found %d times", seq, found[seq])
		}
	}
}

func TestNoise(t *testing.T) {
	roll := dice(5)
	for range 3000 {
		d := newDevice(t, 1+roll(40))
		for at := range d.Size() {
			var body []byte
			for range 60 {
				body = append(body, byte(roll(256)))
			}
			if roll(2) == 0 {
				copy(body, "SLAT\x00\x00\x00")
				body[10] = byte(roll(14))
			}
			page, _ := seal.Close(body)
			if roll(6) == 0 {
				page[roll(64)]++
			}
			put(t, d, at, page)
		}
		checkNewest(t, d)
	}
}

// P14.3

// interrupt saves next over two checkpoints, without power after so many writes and flushes, and keeps those loose writes whose bits are in keep.
// It checks that Load finds what it must find.
func interrupt(t *testing.T, older, old, next api.State, seq, cut, keep int) {
	t.Helper()
	d := newDevice(t, 60)
	if seq > 2 {
		save(t, d, older, great, seq-2)
	}
	save(t, d, old, great, seq-1)
	d.Fail(cut)
	e := slate.Save(d, next, great, seq)
	var list []int
	for n := range d.Loose() {
		if keep>>n&1 == 1 {
			list = append(list, n)
		}
	}
	d.Crash(list...)
	// Only the header makes it the newest one, and its flush makes it last.
	written := len(pagesOf(t, next, great, seq))
	wantE, isNew := api.ErrDown, cut == written+1 && keep&1 == 1
	if cut >= written+2 {
		wantE, isNew = api.OK, true
	}
	if e != wantE {
		t.Fatalf("Save = %d with power for %d, want %d", e, cut, wantE)
	}
	if isNew {
		checkLoad(t, d, next, great, seq)
	} else {
		checkLoad(t, d, old, great, seq-1)
	}
}

// keeps returns how many choices there are of what is kept: of the leaves up to their flush, of the header behind it.
func keeps(cut, leaves int) int {
	if cut > leaves {
		return 2
	}
	return 1 << cut
}

func TestInterruptedSaves(t *testing.T) {
	for seq := 2; seq <= 5; seq++ {
		for leaves := 1; leaves <= 5; leaves++ {
			for before := 1; before <= 5; before++ {
				for cut := range leaves + 5 {
					for keep := range keeps(cut, leaves) {
						interrupt(t, stateOf(before, 7), stateOf(2, 8), stateOf(leaves, 9), seq, cut, keep)
					}
				}
			}
		}
	}
}

// All of the writes of the greatest checkpoints, over another one as great.
func TestInterruptedGreatSaves(t *testing.T) {
	for cut := range mostLeaves + 5 {
		for keep := range keeps(cut, mostLeaves) {
			interrupt(t, stateOf(mostLeaves, 7), stateOf(mostLeaves, 8), stateOf(mostLeaves, 9), 7, cut, keep)
		}
	}
}

// The checkpoints have many leaves that are alike, or all.
func TestInterruptedSavesOfLittle(t *testing.T) {
	roll := dice(6)
	for range 4000 {
		older := stateOf(1+roll(mostLeaves), roll(384))
		old := changed(older, roll)
		next := changed(old, roll)
		if roll(4) == 0 {
			next = older
		}
		interrupt(t, older, old, next, 2+roll(9), roll(15), roll(1<<12))
	}
}

// One interrupted Save after the other, whatever is left of the ones before.
func TestManyCrashes(t *testing.T) {
	roll := dice(7)
	for range 60 {
		d := newDevice(t, 60)
		newest, state := 0, api.State{}
		for range 80 {
			next := stateOf(1+roll(mostLeaves), roll(384))
			if newest > 0 && roll(2) == 0 {
				next = changed(stateOf(1+roll(2), 1), roll)
			}
			if roll(4) > 0 {
				d.Fail(roll(16))
			}
			e := slate.Save(d, next, great, newest+1)
			if e == api.ErrDown {
				checkNoLoad(t, d, api.ErrDown)
			}
			var list []int
			for n := range d.Loose() {
				if roll(2) == 0 {
					list = append(list, n)
				}
			}
			d.Crash(list...)
			_, _, seq, _ := slate.Load(d)
			if seq == newest+1 {
				newest, state = seq, next
			} else if e == api.OK {
				t.Fatalf("seq %d was saved, and %d found", newest+1, seq)
			}
			if newest == 0 {
				checkNoLoad(t, d, api.ErrCorrupt)
			} else {
				checkLoad(t, d, state, great, newest)
			}
		}
	}
}

// Rules R4 and R5

// The spare capacity of the places stays as it is as well, and nothing of them is kept.
func TestArgumentsUnchanged(t *testing.T) {
	s := stateOf(9, 100)
	for id, places := range s.Places {
		s.Places[id] = append(make([]complex128, 0, 64), places...)
	}
	d := newDevice(t, 60)
	save(t, d, s, great, 5)
	save(t, d, s, great, 6)
	checkSave(t, d, s, small, 6, api.ErrRange)
	if !sameState(s, stateOf(9, 100)) {
		t.Error("the state has changed")
	}
	for id, places := range s.Places {
		for _, z := range places[len(places):cap(places)] {
			if z != 0 {
				t.Errorf("the spare capacity of the places of %d has changed", id)
			}
		}
		for i := range places {
			places[i] = 0.5
		}
	}
	checkLoad(t, d, stateOf(9, 100), great, 6)
}

// Whoever writes into a result, or into its spare capacity, changes nothing else.
func TestResultsShareNothing(t *testing.T) {
	d := newDevice(t, 60)
	save(t, d, stateOf(mostLeaves, 100), great, 5)
	first, _, _, _ := slate.Load(d)
	second, _, _, _ := slate.Load(d)
	for id, places := range first.Places {
		for i := range places[:cap(places)] {
			places[:cap(places)][i] = 0.5
		}
		if slices.ContainsFunc(slices.Concat(first.Places[id+1:]...), func(z complex128) bool { return z == 0.5 }) {
			t.Fatalf("the places of %d share memory with others", id)
		}
	}
	if !sameState(second, stateOf(mostLeaves, 100)) {
		t.Error("two results share memory")
	}
	checkLoad(t, d, stateOf(mostLeaves, 100), great, 5)
}

// The same calls have the same results and sectors, whatever happens on other devices.
func TestAlwaysSame(t *testing.T) {
	run := func() [][]byte {
		d := newDevice(t, 60)
		for seq := 1; seq <= 8; seq++ {
			d.Fail(30)
			slate.Save(d, stateOf(1+seq, seq), great, seq)
			checkNewest(t, d)
		}
		return content(t, d)
	}
	want := run()
	for range 20 {
		save(t, newDevice(t, 60), stateOf(3, 3), great, 9)
		if !sameSectors(run(), want) {
			t.Fatal("the sectors differ")
		}
	}
}
