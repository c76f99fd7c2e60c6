package spool_test

import (
	"bytes"
	"encoding/binary"
	"math"
	"slices"
	"testing"

	"stopcock/api"
	"stopcock/basin"
	"stopcock/seal"
	"stopcock/spool"
)

// The limits are written as numbers: one that the program misreads shows.
const (
	greatestSeq = 1073741824
	logAt       = 24
	logSize     = 16
	perSector   = 6
	mostDeltas  = 96
)

// negativeZero is written as a call: the constant -0.0 is a positive zero.
var negativeZero = math.Copysign(0, -1)

// seqs have bits in each of their bytes.
var seqs = []int{1, 2, 7, 255, 256, 65535, 65536, 0x01020304, 0x3F3E3D3C, greatestSeq - 1, greatestSeq}

// notSeqs have low bits that look like a valid seq if a conversion cuts them off.
var notSeqs = []int{0, -1, -2, greatestSeq + 1, greatestSeq + 7, 1<<31 + 7, 1<<32 + 7, -(1 << 32) + 7, math.MaxInt, math.MinInt, math.MinInt + 7}

// notUsed are no numbers of sectors of the log.
var notUsed = []int{-1, -2, -16, 17, 18, 40, 256, 1<<32 + 1, -(1 << 32) + 1, math.MaxInt, math.MaxInt - 16, math.MinInt, math.MinInt + 1}

// dice returns a function that returns numbers from 0 to n - 1, the same ones in each run.
func dice(seed uint64) func(n int) int {
	return func(n int) int {
		seed = seed*6364136223846793005 + 1442695040888963407
		return int(seed>>33) % n
	}
}

func place(segment, slot int) complex128 { return complex(float64(segment), float64(slot)) }

// coded is a valid delta with its bytes, as chapter 7 lists them.
type coded struct {
	delta api.Delta
	bytes [5]byte
}

// someDelta returns a valid delta of any kind.
func someDelta(roll func(int) int) coded {
	vol, other, block := roll(8), roll(8), roll(32)
	segment, slot := roll(24), roll(16)
	high := byte(vol << 4)
	switch kind := 1 + roll(5); kind {
	case 1:
		return coded{api.Delta{Kind: 1, Vol: vol, Block: block + 1}, [5]byte{1, high, byte(block + 1)}}
	case 2:
		return coded{api.Delta{Kind: 2, Vol: vol}, [5]byte{2, high}}
	case 3:
		if other == vol {
			other = (vol + 1) % 8
		}
		return coded{api.Delta{Kind: 3, Vol: vol, Other: other}, [5]byte{3, high | byte(other)}}
	case 4:
		return coded{api.Delta{Kind: 4, Vol: vol, Block: block, Place: place(segment, slot)}, [5]byte{4, high, byte(block), byte(segment), byte(slot)}}
	default:
		return coded{api.Delta{Kind: 5, Vol: vol, Block: block}, [5]byte{5, high, byte(block)}}
	}
}

// codedOf returns so many deltas, other ones for each tag.
func codedOf(count int, tag int) (list []coded) {
	roll := dice(uint64(tag))
	for range count {
		list = append(list, someDelta(roll))
	}
	return list
}

func deltasOf(list []coded) (deltas []api.Delta) {
	for _, c := range list {
		deltas = append(deltas, c.delta)
	}
	return deltas
}

// listOf returns so many deltas, other ones for each tag.
func listOf(count, tag int) []api.Delta { return deltasOf(codedOf(count, tag)) }

// bodyOf returns the bytes that a sector of deltas contains.
func bodyOf(seq, number int, list []coded) []byte {
	body := binary.BigEndian.AppendUint32(nil, uint32(seq))
	body = append(body, byte(number), byte(len(list)))
	for _, c := range list {
		body = append(body, c.bytes[:]...)
	}
	return body
}

func sealed(t *testing.T, body []byte) []byte {
	t.Helper()
	sector, e := seal.Close(body)
	if e != api.OK {
		t.Fatalf("Close(%x) = %d", body, e)
	}
	return sector
}

// sectorsOf returns the sectors of deltas, of which the first one has that number.
func sectorsOf(t *testing.T, seq, number int, list []coded) (sectors [][]byte) {
	t.Helper()
	for part := range slices.Chunk(list, perSector) {
		sectors = append(sectors, sealed(t, bodyOf(seq, number+len(sectors), part)))
	}
	return sectors
}

func newDevice(t *testing.T, sectors int) *basin.Basin {
	t.Helper()
	d, e := basin.New(sectors)
	if e != api.OK {
		t.Fatalf("New(%d) = %d", sectors, e)
	}
	return d
}

// filled returns a device of which no sector is blank, or like another one.
func filled(t *testing.T, sectors int) *basin.Basin {
	t.Helper()
	d := newDevice(t, sectors)
	for at := range sectors {
		put(t, d, at, bytes.Repeat([]byte{byte(at + 1), byte(at >> 8)}, 32))
	}
	flush(t, d)
	return d
}

func put(t *testing.T, d *basin.Basin, at int, sectors ...[]byte) {
	t.Helper()
	for i, sector := range sectors {
		if e := d.Put(api.Write{At: at + i, Data: sector}); e != api.OK {
			t.Fatalf("Put at %d = %d", at+i, e)
		}
	}
}

func flush(t *testing.T, d *basin.Basin) {
	t.Helper()
	if e := d.Flush(); e != api.OK {
		t.Fatalf("Flush() = %d", e)
	}
}

// content returns all sectors.
func content(t *testing.T, d *basin.Basin) (list [][]byte) {
	t.Helper()
	for at := range d.Size() {
		sector, e := d.Get(at)
		if e != api.OK {
			t.Fatalf("Get(%d) = %d", at, e)
		}
		list = append(list, sector)
	}
	return list
}

func checkContent(t *testing.T, d *basin.Basin, want [][]byte) {
	t.Helper()
	for at, sector := range content(t, d) {
		if !bytes.Equal(sector, want[at]) {
			t.Fatalf("sector %d is %x, want %x", at, sector, want[at])
		}
	}
}

// with returns the sectors, with other ones from one of them on.
func with(sectors [][]byte, at int, other ...[]byte) [][]byte {
	list := slices.Clone(sectors)
	copy(list[at:], other)
	return list
}

func checkLoose(t *testing.T, d *basin.Basin, want int) {
	t.Helper()
	if n := d.Loose(); n != want {
		t.Fatalf("%d writes are loose, want %d", n, want)
	}
}

// save saves deltas, and returns how many sectors are used then.
func save(t *testing.T, d *basin.Basin, seq, used int, list []api.Delta) int {
	t.Helper()
	want := used + (len(list)+5)/6
	if n, e := spool.Save(d, seq, used, list...); n != want || e != api.OK {
		t.Fatalf("Save(%d, %d, %v) = %d, %d, want %d, 0", seq, used, list, n, e, want)
	}
	return want
}

func checkNoSave(t *testing.T, d *basin.Basin, seq, used int, list []api.Delta, want api.Errno) {
	t.Helper()
	if n, e := spool.Save(d, seq, used, list...); n != 0 || e != want {
		t.Fatalf("Save(%d, %d, %v) = %d, %d, want 0, %d", seq, used, list, n, e, want)
	}
}

func checkLoad(t *testing.T, d *basin.Basin, seq int, wantList []api.Delta, wantN int) {
	t.Helper()
	if list, n, e := spool.Load(d, seq); e != api.OK || n != wantN || !slices.Equal(list, wantList) {
		t.Fatalf("Load(%d) = %v, %d, %d, want %v, %d, 0", seq, list, n, e, wantList, wantN)
	}
}

func checkNoLoad(t *testing.T, d *basin.Basin, seq int, want api.Errno) {
	t.Helper()
	if list, n, e := spool.Load(d, seq); e != want || n != 0 || len(list) != 0 {
		t.Fatalf("Load(%d) = %v, %d, %d, want %d", seq, list, n, e, want)
	}
}

// P15.1: Sectors

func TestSectors(t *testing.T) {
	for count := 0; count <= mostDeltas; count++ {
		want := 0
		for n := 0; n < count; n += perSector {
			want++
		}
		if n, e := spool.Sectors(count); n != want || e != api.OK {
			t.Errorf("Sectors(%d) = %d, %d, want %d, 0", count, n, e, want)
		}
	}
	if n, e := spool.Sectors(mostDeltas); n != logSize || e != api.OK {
		t.Errorf("Sectors(%d) = %d, %d, want all of the log", mostDeltas, n, e)
	}
}

func TestSectorsRefuses(t *testing.T) {
	for _, count := range []int{-1, -2, -5, -6, -7, -96, 97, 98, 102, 256, 1<<32 + 1, -(1 << 32) + 1, math.MaxInt, math.MaxInt - 4, math.MinInt, math.MinInt + 1} {
		if n, e := spool.Sectors(count); n != 0 || e != api.ErrArg {
			t.Errorf("Sectors(%d) = %d, %d, want 0, ErrArg", count, n, e)
		}
	}
}

// P15.1: Save

func TestSaveWrittenOut(t *testing.T) {
	d := newDevice(t, 60)
	n, e := spool.Save(d, 0x01020304, 14,
		api.Delta{Kind: api.Create, Vol: 7, Block: 32},
		api.Delta{Kind: api.Put, Vol: 7, Block: 31, Place: complex(23, 15)},
		api.Delta{Kind: api.Snap, Vol: 7, Other: 6},
		api.Delta{Kind: api.Discard, Vol: 7, Block: 31},
		api.Delta{Kind: api.Delete, Vol: 6},
		api.Delta{Kind: api.Create, Vol: 0, Block: 1},
		api.Delta{Kind: api.Put, Vol: 0, Block: 0, Place: 0},
	)
	if n != 16 || e != api.OK {
		t.Fatalf("Save = %d, %d, want 16, 0", n, e)
	}
	want := slices.Repeat([][]byte{make([]byte, 64)}, 60)
	want[38] = sealed(t, []byte("\x01\x02\x03\x04\x0E\x06"+
		"\x01\x70\x20\x00\x00"+"\x04\x70\x1F\x17\x0F"+"\x03\x76\x00\x00\x00"+"\x05\x70\x1F\x00\x00"+"\x02\x60\x00\x00\x00"+"\x01\x00\x01\x00\x00"))
	want[39] = sealed(t, []byte("\x01\x02\x03\x04\x0F\x01"+"\x04\x00\x00\x00\x00"))
	checkContent(t, d, want)
}

// The sectors are behind those that are used, and loose; all other sectors stay as they are.
func TestSave(t *testing.T) {
	for i, seq := range seqs {
		for used := 0; used <= logSize; used++ {
			for count := 0; count <= perSector*(logSize-used); count++ {
				if i > 1 && count%5 != used%5 {
					continue
				}
				list := codedOf(count, 100*used+count)
				d := filled(t, 60)
				before := content(t, d)
				save(t, d, seq, used, deltasOf(list))
				checkLoose(t, d, (count+5)/6)
				checkContent(t, d, with(before, logAt+used, sectorsOf(t, seq, used, list)...))
				d.Crash()
				checkContent(t, d, before)
			}
		}
	}
}

// Every place of each block of each volume, and every other delta, is in the sector as chapter 7 encodes it.
func TestSaveOfEachDelta(t *testing.T) {
	d := newDevice(t, 60)
	check := func(c coded) {
		t.Helper()
		save(t, d, 9, 0, []api.Delta{c.delta})
		sector, _ := d.Get(logAt)
		if !bytes.Equal(sector, sealed(t, bodyOf(9, 0, []coded{c}))) {
			t.Fatalf("%v is %x", c.delta, sector)
		}
		checkLoad(t, d, 9, []api.Delta{c.delta}, 1)
		flush(t, d)
	}
	for vol := range 8 {
		high := byte(vol << 4)
		check(coded{api.Delta{Kind: 2, Vol: vol}, [5]byte{2, high}})
		for other := range 8 {
			if other != vol {
				check(coded{api.Delta{Kind: 3, Vol: vol, Other: other}, [5]byte{3, high | byte(other)}})
			}
		}
		for block := range 32 {
			check(coded{api.Delta{Kind: 1, Vol: vol, Block: block + 1}, [5]byte{1, high, byte(block + 1)}})
			check(coded{api.Delta{Kind: 5, Vol: vol, Block: block}, [5]byte{5, high, byte(block)}})
			segment, slot := (3*block+vol)%24, (block+5*vol)%16
			check(coded{api.Delta{Kind: 4, Vol: vol, Block: block, Place: place(segment, slot)}, [5]byte{4, high, byte(block), byte(segment), byte(slot)}})
		}
	}
	for segment := range 24 {
		for slot := range 16 {
			check(coded{api.Delta{Kind: 4, Vol: 1, Block: 3, Place: place(segment, slot)}, [5]byte{4, 0x10, 3, byte(segment), byte(slot)}})
		}
	}
}

// A part that is a negative zero counts as 0, and does not come back.
func TestNegativeZeros(t *testing.T) {
	for _, z := range []complex128{complex(negativeZero, 0), complex(0, negativeZero), complex(negativeZero, negativeZero), complex(negativeZero, 5), complex(5, negativeZero)} {
		d := newDevice(t, 60)
		save(t, d, 7, 0, []api.Delta{{Kind: 4, Vol: 2, Block: 3, Place: z}})
		sector, _ := d.Get(logAt)
		if want := [5]byte{4, 0x20, 3, byte(real(z)), byte(imag(z))}; !bytes.Equal(sector, sealed(t, bodyOf(7, 0, []coded{{bytes: want}}))) {
			t.Errorf("the place %v is %x", z, sector)
		}
		list, _, _ := spool.Load(d, 7)
		if len(list) != 1 || list[0].Place != z || math.Signbit(real(list[0].Place)) || math.Signbit(imag(list[0].Place)) {
			t.Errorf("the place %v is loaded as %v", z, list)
		}
	}
}

// Without power after so many writes, exactly those before were performed, in their order.
func TestOrderOfWrites(t *testing.T) {
	for _, used := range []int{0, 1, 7, 15} {
		for count := 1; count <= perSector*(logSize-used); count += 5 {
			list := codedOf(count, used)
			sectors := sectorsOf(t, 7, used, list)
			for cut := range sectors {
				for kept := range cut {
					d := filled(t, 60)
					before := content(t, d)
					d.Fail(cut)
					checkNoSave(t, d, 7, used, deltasOf(list), api.ErrDown)
					checkLoose(t, d, cut)
					d.Crash(kept)
					checkContent(t, d, with(before, logAt+used+kept, sectors[kept]))
				}
			}
		}
	}
}

// Nothing is flushed, nor is anything else attempted: power for the sectors is enough, and the next attempt takes it.
func TestSaveWritesSectorsAlone(t *testing.T) {
	for count := range mostDeltas + 1 {
		d := newDevice(t, 60)
		put(t, d, 50, make([]byte, 64))
		d.Fail((count + 5) / 6)
		save(t, d, 7, 0, listOf(count, 3))
		checkLoose(t, d, 1+(count+5)/6)
		checkLoad(t, d, 7, listOf(count, 3), (count+5)/6)
		if e := d.Flush(); e != api.ErrDown {
			t.Fatalf("%d deltas: Flush() = %d, want ErrDown", count, e)
		}
	}
}

// wrongDeltas are deltas with the errors of delta.Check.
func wrongDeltas() map[api.Delta]api.Errno {
	return map[api.Delta]api.Errno{
		{}:                              api.ErrArg,
		{Kind: 6}:                       api.ErrArg,
		{Kind: -1, Vol: 8}:              api.ErrArg,
		{Kind: 1<<32 + 1, Block: 1}:     api.ErrArg,
		{Kind: 256 + 2}:                 api.ErrArg,
		{Kind: math.MinInt}:             api.ErrArg,
		{Kind: 1}:                       api.ErrRange,
		{Kind: 1, Block: 33}:            api.ErrRange,
		{Kind: 1, Vol: -1, Block: 1}:    api.ErrRange,
		{Kind: 2, Vol: 8}:               api.ErrRange,
		{Kind: 2, Vol: math.MaxInt}:     api.ErrRange,
		{Kind: 3, Vol: 3, Other: 3}:     api.ErrRange,
		{Kind: 3, Vol: 3, Other: 8}:     api.ErrRange,
		{Kind: 4, Block: 32}:            api.ErrRange,
		{Kind: 4, Place: -1}:            api.ErrRange,
		{Kind: 4, Place: 24}:            api.ErrRange,
		{Kind: 4, Place: 16i}:           api.ErrRange,
		{Kind: 4, Place: 0.5}:           api.ErrRange,
		{Kind: 5, Block: -1}:            api.ErrRange,
		{Kind: 1, Block: 1, Other: 1}:   api.ErrForm,
		{Kind: 1, Block: 1, Place: 1}:   api.ErrForm,
		{Kind: 2, Block: 1}:             api.ErrForm,
		{Kind: 2, Place: -1}:            api.ErrForm,
		{Kind: 3, Other: 1, Block: 1}:   api.ErrForm,
		{Kind: 4, Other: 1}:             api.ErrForm,
		{Kind: 5, Place: complex(1, 1)}: api.ErrForm,
	}
}

// checkRefused checks that a call has an error on any device, and writes nothing: the attempt of a write would take the power.
func checkRefused(t *testing.T, seq, used int, list []api.Delta, want api.Errno) {
	t.Helper()
	for _, sectors := range []int{1, 25, 40, 60} {
		d := filled(t, sectors)
		put(t, d, 0, make([]byte, 64))
		before := content(t, d)
		d.Fail(0)
		checkNoSave(t, d, seq, used, list, want)
		checkLoose(t, d, 1)
		checkContent(t, d, before)
		d.Flush()
		checkNoSave(t, d, seq, used, list, want)
	}
	checkNoSave(t, nil, seq, used, list, api.ErrArg)
}

func TestSaveRefusesNumbers(t *testing.T) {
	lists := [][]api.Delta{nil, {}, listOf(1, 1), listOf(97, 1), {{Kind: 2, Vol: 8}}, {{Kind: 2, Other: 1}}}
	for _, list := range lists {
		for _, seq := range notSeqs {
			for _, used := range []int{0, 1, 15, 16, 17, -1} {
				checkRefused(t, seq, used, list, api.ErrArg)
			}
		}
		for _, used := range notUsed {
			for _, seq := range []int{1, 7, greatestSeq, 0} {
				checkRefused(t, seq, used, list, api.ErrArg)
			}
		}
	}
}

// One wrong delta is enough, wherever it is, and whether there would be room or not.
func TestSaveRefusesDeltas(t *testing.T) {
	for wrong, want := range wrongDeltas() {
		checkRefused(t, 7, 16, []api.Delta{wrong}, want)
		for _, count := range []int{1, 5, 6, 7, 13, 96, 97, 200} {
			for _, i := range []int{0, 1, 4, 5, 6, 11, 12, 95, 96, 199} {
				if i < count {
					list := listOf(count, i)
					list[i] = wrong
					checkRefused(t, 7, i%17, list, want)
				}
			}
		}
	}
	nan := api.Delta{Kind: 4, Place: complex(math.NaN(), math.Inf(1))}
	checkRefused(t, 7, 0, []api.Delta{nan}, api.ErrRange)
	nan.Kind = 5
	checkRefused(t, 7, 16, []api.Delta{nan}, api.ErrForm)
}

// Of several wrong deltas the first one counts.
func TestFirstWrongDeltaCounts(t *testing.T) {
	for first, want := range wrongDeltas() {
		for second := range wrongDeltas() {
			list := listOf(9, 1)
			list[2], list[7] = first, second
			d := newDevice(t, 60)
			d.Fail(0)
			checkNoSave(t, d, 7, 0, list, want)
			checkLoose(t, d, 0)
		}
	}
}

func TestSaveRefusesTooMany(t *testing.T) {
	for used := 0; used <= logSize; used++ {
		room := perSector * (logSize - used)
		for count := room + 1; count <= room+8; count++ {
			checkRefused(t, 7, used, listOf(count, used), api.ErrFull)
		}
		for _, count := range []int{97, 98, 102, 103, 256, 257, 6 * 256, 6*256 + 1, 5000} {
			checkRefused(t, 7, used, listOf(count, used), api.ErrFull)
		}
	}
	// So many that the number of their sectors has the low bits of a small one.
	checkRefused(t, 7, 0, listOf(6*65536, 1), api.ErrFull)
}

func TestSaveWithoutDevice(t *testing.T) {
	for used := 0; used <= logSize; used++ {
		checkNoSave(t, nil, 7, used, nil, api.ErrArg)
		checkNoSave(t, nil, 7, used, listOf(1, 1), api.ErrArg)
	}
}

func TestSaveWithoutPower(t *testing.T) {
	for _, sectors := range []int{1, 24, 25, 60} {
		d := filled(t, sectors)
		before := content(t, d)
		d.Fail(0)
		d.Flush()
		for range 2 {
			for used := range logSize {
				checkNoSave(t, d, 7, used, listOf(1, 1), api.ErrDown)
				checkNoSave(t, d, 7, used, listOf(6*(logSize-used), 1), api.ErrDown)
			}
		}
		d.Crash()
		checkContent(t, d, before)
	}
}

// Where there is nothing to Put there is no error of Put: neither without power nor without sectors.
func TestSaveOfNothing(t *testing.T) {
	for used := 0; used <= logSize; used++ {
		for _, sectors := range []int{1, 24, 39, 40, 60} {
			d := filled(t, sectors)
			before := content(t, d)
			d.Fail(0)
			save(t, d, 7, used, nil)
			save(t, d, greatestSeq, used, []api.Delta{})
			checkLoose(t, d, 0)
			checkContent(t, d, before)
			d.Flush()
			save(t, d, 7, used, nil)
		}
	}
}

// On a device that ends within the log the sectors that it has are written.
func TestSaveOnShortDevices(t *testing.T) {
	for sectors := 1; sectors <= 41; sectors++ {
		for used := range logSize {
			for _, count := range []int{1, 6, 7, 18, 6 * (logSize - used)} {
				need := (count + 5) / 6
				if used+need > logSize {
					continue
				}
				list := codedOf(count, used)
				there := min(max(0, sectors-logAt-used), need)
				d := filled(t, sectors)
				before := content(t, d)
				if there == need {
					save(t, d, 7, used, deltasOf(list))
				} else {
					checkNoSave(t, d, 7, used, deltasOf(list), api.ErrRange)
				}
				checkLoose(t, d, there)
				if there > 0 {
					checkContent(t, d, with(before, logAt+used, sectorsOf(t, 7, used, list)[:there]...))
				}
				d.Crash()
				checkContent(t, d, before)
				for cut := range there {
					d.Fail(cut)
					checkNoSave(t, d, 7, used, deltasOf(list), api.ErrDown)
					d.Crash()
				}
				if there < need {
					// It is the first error: no write without a sector takes power.
					d.Fail(there)
					checkNoSave(t, d, 7, used, deltasOf(list), api.ErrRange)
				}
			}
		}
	}
}

// A device that was not made by New has no sectors.
func TestDeviceWithoutSectors(t *testing.T) {
	d := &basin.Basin{}
	checkNoLoad(t, d, 7, api.ErrRange)
	checkNoSave(t, d, 7, 0, listOf(1, 1), api.ErrRange)
	save(t, d, 7, 5, nil)
	d.Fail(0)
	d.Flush()
	checkNoLoad(t, d, 7, api.ErrDown)
	checkNoSave(t, d, 7, 0, listOf(1, 1), api.ErrDown)
}

// P15.2

func TestLoad(t *testing.T) {
	for i, seq := range seqs {
		for count := range mostDeltas + 1 {
			list := codedOf(count, count+i)
			sectors := sectorsOf(t, seq, 0, list)
			d := newDevice(t, 60)
			put(t, d, logAt, sectors...)
			checkLoad(t, d, seq, deltasOf(list), len(sectors))
		}
	}
}

// Each Save begins a sector of its own, however few deltas the one before has.
func TestLoadOfManySaves(t *testing.T) {
	roll := dice(1)
	for range 2000 {
		d := newDevice(t, 60)
		seq, used := seqs[roll(len(seqs))], 0
		var all []api.Delta
		for used < logSize {
			count := roll(min(20, perSector*(logSize-used)+1))
			list := listOf(count, roll(1<<20))
			used = save(t, d, seq, used, list)
			all = append(all, list...)
			checkLoad(t, d, seq, all, used)
			if roll(4) == 0 {
				flush(t, d)
			}
		}
		checkNoSave(t, d, seq, used, listOf(1, 1), api.ErrFull)
		checkLoad(t, d, seq, all, logSize)
	}
}

func TestLoadRefuses(t *testing.T) {
	for _, seq := range notSeqs {
		d := newDevice(t, 60)
		save(t, d, 7, 0, listOf(3, 1))
		checkNoLoad(t, d, seq, api.ErrArg)
		checkNoLoad(t, nil, seq, api.ErrArg)
		checkNoLoad(t, newDevice(t, 1), seq, api.ErrArg)
		d.Fail(0)
		d.Flush()
		checkNoLoad(t, d, seq, api.ErrArg)
		// A sector that states it is no sector of deltas either.
		d = newDevice(t, 60)
		put(t, d, logAt, sectorsOf(t, seq, 0, codedOf(3, 1))...)
		checkNoLoad(t, d, seq, api.ErrArg)
	}
	for _, seq := range seqs {
		checkNoLoad(t, nil, seq, api.ErrArg)
	}
}

func TestLoadWithoutPower(t *testing.T) {
	for _, sectors := range []int{1, 24, 25, 30, 60} {
		d := newDevice(t, sectors)
		if sectors > logAt {
			save(t, d, 7, 0, listOf(6, 1))
		}
		d.Fail(0)
		d.Flush()
		checkNoLoad(t, d, 7, api.ErrDown)
		checkNoLoad(t, d, 8, api.ErrDown)
		d.Crash(0)
		if sectors == 60 {
			checkLoad(t, d, 7, listOf(6, 1), 1)
		}
	}
}

// Where a sector is needed that the device does not have, there is its error; what is behind the deltas is not needed.
func TestLoadOnShortDevices(t *testing.T) {
	for sectors := 1; sectors <= 41; sectors++ {
		for count := range logSize + 1 {
			d := newDevice(t, sectors)
			for number := range count {
				if logAt+number < sectors {
					put(t, d, logAt+number, sectorsOf(t, 7, number, codedOf(2, number))...)
				}
			}
			if there := min(sectors-logAt, logSize); there < logSize && count >= there {
				checkNoLoad(t, d, 7, api.ErrRange)
				continue
			}
			var all []api.Delta
			for number := range count {
				all = append(all, listOf(2, number)...)
			}
			checkLoad(t, d, 7, all, count)
		}
	}
}

func TestLoadOfOtherSectors(t *testing.T) {
	for sectors := 25; sectors <= 424; sectors += 7 {
		checkLoad(t, newDevice(t, sectors), 7, nil, 0)
		checkLoad(t, filled(t, sectors), 7, nil, 0)
	}
}

// Only what was saved with this seq counts, up to the first sector with another one.
func TestOtherSeqs(t *testing.T) {
	for _, seq := range seqs {
		for _, other := range append([]int{seq - 1, seq + 1, seq ^ 1<<8, seq ^ 1<<16, seq ^ 1<<24}, seqs...) {
			if other == seq || other < 1 || other > greatestSeq {
				continue
			}
			d := newDevice(t, 60)
			save(t, d, other, 0, listOf(40, 1))
			checkLoad(t, d, seq, nil, 0)
			save(t, d, seq, 0, listOf(13, 2))
			checkLoad(t, d, seq, listOf(13, 2), 3)
			checkLoad(t, d, other, nil, 0)
			save(t, d, seq, 4, listOf(6, 3))
			checkLoad(t, d, seq, listOf(13, 2), 3)
			save(t, d, seq, 3, listOf(1, 4))
			checkLoad(t, d, seq, slices.Concat(listOf(13, 2), listOf(1, 4), listOf(6, 3)), 5)
		}
	}
}

// Behind a sector of deltas there may be others of the same seq, whichever Save wrote them.
func TestSavedOver(t *testing.T) {
	d := newDevice(t, 60)
	save(t, d, 7, 0, listOf(18, 1))
	save(t, d, 7, 0, listOf(2, 2))
	checkLoad(t, d, 7, append(listOf(2, 2), listOf(18, 1)[6:]...), 3)
	save(t, d, 7, 1, listOf(7, 3))
	checkLoad(t, d, 7, append(listOf(2, 2), listOf(7, 3)...), 3)
}

// A sector with another number than its own ends the deltas.
func TestOtherNumbers(t *testing.T) {
	for at := range logSize {
		for number := range 256 {
			d := newDevice(t, 60)
			list := codedOf(mostDeltas, at)
			put(t, d, logAt, sectorsOf(t, 7, 0, list)...)
			part := list[perSector*at : perSector*(at+1)]
			put(t, d, logAt+at, sealed(t, bodyOf(7, number, part)))
			if number == at {
				checkLoad(t, d, 7, deltasOf(list), logSize)
			} else {
				checkLoad(t, d, 7, deltasOf(list[:perSector*at]), at)
			}
		}
	}
}

// The sectors before the log and behind it do not belong to it, even if they continue its numbers.
func TestLoadStaysInLog(t *testing.T) {
	d := newDevice(t, 424)
	for at := range 424 {
		put(t, d, at, sealed(t, bodyOf(7, (at-logAt)&0xFF, codedOf(1, at))))
	}
	var want []api.Delta
	for number := range logSize {
		want = append(want, listOf(1, logAt+number)...)
	}
	checkLoad(t, d, 7, want, logSize)
	put(t, d, logAt, make([]byte, 64))
	checkLoad(t, d, 7, nil, 0)
}

// A sector states from one to six deltas, whatever its other bytes look like.
func TestOtherCounts(t *testing.T) {
	for before := range 3 {
		for there := range 11 {
			for count := range 256 {
				d := newDevice(t, 60)
				list := codedOf(6*before+there, there)
				put(t, d, logAt, sectorsOf(t, 7, 0, list[:6*before])...)
				body := bodyOf(7, before, list[6*before:])
				body[5] = byte(count)
				put(t, d, logAt+before, sealed(t, body))
				put(t, d, logAt+before+1, sectorsOf(t, 7, before+1, codedOf(2, 1))...)
				if count == there && count >= 1 && count <= 6 {
					checkLoad(t, d, 7, append(deltasOf(list), listOf(2, 1)...), before+2)
				} else {
					checkLoad(t, d, 7, deltasOf(list[:6*before]), before)
				}
			}
		}
	}
}

// The bytes behind the deltas are 0.
func TestBytesBehindDeltas(t *testing.T) {
	for count := 1; count <= perSector; count++ {
		for at := 6 + 5*count; at < 60; at++ {
			for _, value := range []byte{1, 4, 128, 255} {
				d := newDevice(t, 60)
				body := make([]byte, 60)
				copy(body, bodyOf(7, 0, codedOf(count, at)))
				put(t, d, logAt, sealed(t, body))
				checkLoad(t, d, 7, listOf(count, at), 1)
				body[at] = value
				put(t, d, logAt, sealed(t, body))
				checkLoad(t, d, 7, nil, 0)
			}
		}
	}
}

// A delta that is not valid makes its sector none.
func TestWrongDeltasInSectors(t *testing.T) {
	wrong := [][5]byte{
		{}, {0, 0, 1}, {6}, {255}, {0x81},
		{1, 0, 0}, {1, 0, 33}, {1, 0x80, 1}, {1, 1, 1}, {1, 0, 1, 1}, {1, 0, 1, 0, 1},
		{2, 0x80}, {2, 0xF0}, {2, 1}, {2, 0, 1}, {2, 0, 0, 1}, {2, 0, 0, 0, 1},
		{3, 0x11}, {3, 0x18}, {3, 0x81}, {3, 0x12, 1}, {3, 0x12, 0, 1}, {3, 0x12, 0, 0, 1},
		{4, 0, 32}, {4, 0x80}, {4, 1}, {4, 0, 0, 24}, {4, 0, 0, 0, 16}, {4, 0, 0, 255, 255},
		{5, 0, 32}, {5, 0x80}, {5, 1}, {5, 0, 0, 1}, {5, 0, 0, 0, 1},
	}
	for _, b := range wrong {
		for count := 1; count <= perSector; count++ {
			for i := range count {
				d := newDevice(t, 60)
				list := codedOf(perSector+count, 2)
				list[perSector+i].bytes = b
				put(t, d, logAt, sectorsOf(t, 7, 0, list)...)
				checkLoad(t, d, 7, deltasOf(list[:perSector]), 1)
			}
		}
	}
}

// Each byte of each sector in turn is damaged: then the deltas before it count.
func TestDamaged(t *testing.T) {
	d := newDevice(t, 60)
	list := codedOf(20, 5)
	sectors := sectorsOf(t, 0x01020304, 0, list)
	put(t, d, logAt, sectors...)
	for number, sector := range sectors {
		for at := range sector {
			for bit := range 8 {
				damaged := slices.Clone(sector)
				damaged[at] ^= 1 << bit
				put(t, d, logAt+number, damaged)
				checkLoad(t, d, 0x01020304, deltasOf(list[:perSector*number]), number)
			}
			flush(t, d)
		}
		put(t, d, logAt+number, sector)
		checkLoad(t, d, 0x01020304, deltasOf(list), 4)
	}
}

// parse is a reference for one sector: it returns its deltas, or none if it is no sector of deltas.
func parse(sector []byte, seq, number int) (list []api.Delta) {
	body, e := seal.Open(sector)
	if e != api.OK || binary.BigEndian.Uint32(body) != uint32(seq) || int(body[4]) != number {
		return nil
	}
	count := int(body[5])
	if count < 1 || count > perSector {
		return nil
	}
	for i, b := range body[6:] {
		if i >= 5*count && b != 0 {
			return nil
		}
	}
	for i := range count {
		b := body[6+5*i:]
		vol, other, block, segment, slot := int(b[1]>>4), int(b[1]&15), int(b[2]), int(b[3]), int(b[4])
		isPlain, isPlaceless := other == 0, segment == 0 && slot == 0
		var good bool
		switch b[0] {
		case 1:
			good = isPlain && isPlaceless && block >= 1 && block <= 32
		case 2:
			good = isPlain && isPlaceless && block == 0
		case 3:
			good = isPlaceless && block == 0 && other < 8 && other != vol
		case 4:
			good = isPlain && block < 32 && segment < 24 && slot < 16
		case 5:
			good = isPlain && isPlaceless && block < 32
		}
		if !good || vol >= 8 {
			return nil
		}
		list = append(list, api.Delta{Kind: int(b[0]), Vol: vol, Other: other, Block: block, Place: place(segment, slot)})
	}
	return list
}

// checkParsed checks Load against the reference, and returns the number of sectors.
func checkParsed(t *testing.T, d *basin.Basin, seq int) int {
	t.Helper()
	var all []api.Delta
	for number := range logSize {
		sector, _ := d.Get(logAt + number)
		list := parse(sector, seq, number)
		if list == nil {
			checkLoad(t, d, seq, all, number)
			return number
		}
		all = append(all, list...)
	}
	checkLoad(t, d, seq, all, logSize)
	return logSize
}

// Logs of sectors that are almost always sectors of deltas, and else have some byte changed before or after they are sealed.
func TestNoise(t *testing.T) {
	roll := dice(6)
	found := map[int]int{}
	for range 20000 {
		d := newDevice(t, 60)
		for number := range logSize {
			body := make([]byte, 60)
			copy(body, bodyOf(7, number, codedOf(1+roll(6), roll(1<<20))))
			if roll(8) == 0 {
				body[roll(60)] = byte(roll(256))
			}
			if roll(8) == 0 {
				body[roll(42)]++
			}
			sector := sealed(t, body)
			if roll(40) == 0 {
				sector[roll(64)]++
			}
			put(t, d, logAt+number, sector)
		}
		found[checkParsed(t, d, 7)]++
	}
	for number := range logSize + 1 {
		if found[number] < 20 {
			t.Errorf("%d sectors were found %d times", number, found[number])
		}
	}
}

// Logs in which several seqs and numbers are mixed.
func TestMixedSectors(t *testing.T) {
	roll := dice(7)
	for range 5000 {
		d := newDevice(t, 60)
		for range 12 {
			used := roll(logSize)
			save(t, d, 7+roll(2), used, listOf(roll(min(30, perSector*(logSize-used)+1)), roll(1<<20)))
		}
		for range 3 {
			sector, _ := d.Get(logAt + roll(logSize))
			if roll(4) == 0 {
				put(t, d, logAt+roll(logSize), sector)
			}
		}
		for seq := 6; seq <= 9; seq++ {
			checkParsed(t, d, seq)
		}
	}
}

// Whichever of the writes become durable, what is before the first lost one is found.
func TestCrashes(t *testing.T) {
	for _, used := range []int{0, 1, 5, 10} {
		for count := 1; count <= 6; count++ {
			for cut := range count + 1 {
				for keep := range 1 << cut {
					d := newDevice(t, 60)
					old, list := listOf(perSector*used, 1), listOf(perSector*count, 2)
					save(t, d, 7, 0, old)
					flush(t, d)
					d.Fail(cut)
					spool.Save(d, 7, used, list...)
					whole := 0
					var kept []int
					for n := range cut {
						if keep>>n&1 == 1 {
							kept = append(kept, n)
						}
						if keep&(2<<n-1) == 2<<n-1 {
							whole = n + 1
						}
					}
					d.Crash(kept...)
					checkLoad(t, d, 7, append(old, list[:perSector*whole]...), used+whole)
				}
			}
		}
	}
}

// Load neither writes nor flushes: the attempt would take the power.
func TestLoadChangesNothing(t *testing.T) {
	for count := range mostDeltas + 1 {
		d := filled(t, 60)
		save(t, d, 7, 0, listOf(count, 1))
		loose, before := d.Loose(), content(t, d)
		d.Fail(0)
		for seq := 6; seq <= 8; seq++ {
			spool.Load(d, seq)
			checkLoose(t, d, loose)
			checkContent(t, d, before)
		}
	}
}

// Rules R4 and R5

// The spare capacity of the list stays as it is as well, and nothing of the list is kept.
func TestArgumentsUnchanged(t *testing.T) {
	for count := range mostDeltas + 1 {
		list := append(make([]api.Delta, 0, 200), listOf(count, 1)...)
		d := newDevice(t, 60)
		save(t, d, 7, 0, list)
		spool.Save(d, 7, 1+logSize, list...)
		spool.Save(d, 7, logSize, list...)
		if !slices.Equal(list, listOf(count, 1)) {
			t.Error("the list has changed")
		}
		for _, other := range list[count:cap(list)] {
			if other != (api.Delta{}) {
				t.Error("the spare capacity of the list has changed")
			}
		}
		clear(list)
		checkLoad(t, d, 7, listOf(count, 1), (count+5)/6)
	}
}

// Whoever writes into a result, or into its spare capacity, changes nothing else.
func TestResultsShareNothing(t *testing.T) {
	d := newDevice(t, 60)
	save(t, d, 7, 0, listOf(31, 1))
	first, _, _ := spool.Load(d, 7)
	second, _, _ := spool.Load(d, 7)
	for i := range first[:cap(first)] {
		first[:cap(first)][i] = api.Delta{Kind: 9}
	}
	if !slices.Equal(second, listOf(31, 1)) {
		t.Error("two results share memory")
	}
	checkLoad(t, d, 7, listOf(31, 1), 6)
}

// The same calls have the same results and sectors, whatever happens on other devices.
func TestAlwaysSame(t *testing.T) {
	run := func() [][]byte {
		d, used := newDevice(t, 60), 0
		for i := range 8 {
			used = save(t, d, 5+i/4, used%8, listOf(3+i, i))
			checkParsed(t, d, 5)
			checkParsed(t, d, 6)
		}
		return content(t, d)
	}
	want := run()
	for range 20 {
		save(t, newDevice(t, 60), 5, 3, listOf(20, 9))
		if !slices.EqualFunc(run(), want, bytes.Equal) {
			t.Fatal("the sectors differ")
		}
	}
}
