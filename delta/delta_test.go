package delta_test

import (
	"bytes"
	"math"
	"testing"

	"stopcock/api"
	"stopcock/delta"
)

// negativeZero is written as a call: the constant -0.0 is a positive zero.
var negativeZero = math.Copysign(0, -1)

// extremes have low bits that look like a valid number if a conversion cuts them off.
var extremes = []int{
	-1, -2, -8, -16, -31, -256, -256 + 3, 256, 256 + 3, 1<<16 + 1, 1 << 20, 1<<32 + 1, 1<<32 + 2, 1<<32 + 3,
	math.MaxInt32, math.MinInt32, math.MinInt32 + 3, math.MaxInt, math.MaxInt - 6, math.MaxInt/2 + 4, math.MinInt, math.MinInt + 1, math.MinInt + 3, math.MinInt / 2,
}

// notParts make a number no place, as its real and as its imaginary part.
var notParts = []float64{
	math.NaN(), math.Inf(1), math.Inf(-1), -1, -2, -0.5, -1e-300, 0.5, 1.5, math.SmallestNonzeroFloat64,
	math.Nextafter(1, 0), math.Nextafter(1, 2), 24, 25, 255, 256, 257, 1<<16 + 1, 1<<32 + 3, -(1 << 32), 1 << 53,
	1 << 63, -(1 << 63), 1<<64 + 1<<12, 1e300, -1e300, math.MaxFloat64,
}

func place(segment, slot int) complex128 { return complex(float64(segment), float64(slot)) }

// notPlaces are numbers that are no places; -1 is among them.
func notPlaces() []complex128 {
	list := []complex128{-1, complex(-1, negativeZero), complex(0, 16), complex(23, 16), complex(24, 0), complex(24, 15), complex(0, 17)}
	for _, x := range notParts {
		list = append(list, complex(x, 0), complex(x, 15), complex(0, x+0.25), complex(7, -math.Abs(x)), complex(x, x))
	}
	return list
}

// The limits are numbers here: one that the program misreads shows.
func create(vol, size int) api.Delta { return api.Delta{Kind: 1, Vol: vol, Block: size} }
func remove(vol int) api.Delta       { return api.Delta{Kind: 2, Vol: vol} }
func snap(vol, other int) api.Delta  { return api.Delta{Kind: 3, Vol: vol, Other: other} }
func discard(vol, block int) api.Delta {
	return api.Delta{Kind: 5, Vol: vol, Block: block}
}
func put(vol, block int, z complex128) api.Delta {
	return api.Delta{Kind: 4, Vol: vol, Block: block, Place: z}
}

// valid are all valid deltas with their bytes, as the chapter lists them.
func valid() map[api.Delta][5]byte {
	list := map[api.Delta][5]byte{}
	for vol := range 8 {
		high := byte(vol << 4)
		list[remove(vol)] = [5]byte{2, high, 0, 0, 0}
		for size := 1; size <= 32; size++ {
			list[create(vol, size)] = [5]byte{1, high, byte(size), 0, 0}
		}
		for other := range 8 {
			if other != vol {
				list[snap(vol, other)] = [5]byte{3, high | byte(other), 0, 0, 0}
			}
		}
		for block := range 32 {
			list[discard(vol, block)] = [5]byte{5, high, byte(block), 0, 0}
			for segment := range 24 {
				for slot := range 16 {
					list[put(vol, block, place(segment, slot))] = [5]byte{4, high, byte(block), byte(segment), byte(slot)}
				}
			}
		}
	}
	return list
}

// P7.1: Check

func checkCheck(t *testing.T, d api.Delta, want api.Errno) {
	t.Helper()
	if e := delta.Check(d); e != want {
		t.Errorf("Check(%v) = %d, want %d", d, e, want)
	}
	b, e := delta.Encode(d)
	if e != want {
		t.Errorf("Encode(%v): error %d, want %d", d, e, want)
	}
	if want != api.OK && len(b) != 0 {
		t.Errorf("Encode(%v) = %x beside error %d", d, b, e)
	}
}

func TestCheckValid(t *testing.T) {
	for d := range valid() {
		checkCheck(t, d, api.OK)
	}
}

func TestCheckKind(t *testing.T) {
	for _, kind := range append([]int{0, 6, 7, 8, 16, 255}, extremes...) {
		for _, d := range []api.Delta{{}, {Block: 1}, {Vol: 1, Other: 2}, {Place: 3}, {Vol: 8}, {Block: -1, Other: 9, Place: complex(math.NaN(), 0)}} {
			d.Kind = kind
			checkCheck(t, d, api.ErrArg)
		}
	}
}

func TestCheckVol(t *testing.T) {
	for _, vol := range append([]int{8, 9, 15, 16}, extremes...) {
		for _, d := range []api.Delta{create(vol, 1), create(vol, 32), remove(vol), snap(vol, 0), snap(vol, 7), put(vol, 0, 0), put(vol, 31, place(23, 15)), discard(vol, 0), discard(vol, 31)} {
			checkCheck(t, d, api.ErrRange)
		}
	}
}

func TestCheckOther(t *testing.T) {
	for _, other := range append([]int{8, 9, 15, 16}, extremes...) {
		checkCheck(t, snap(0, other), api.ErrRange)
		checkCheck(t, snap(7, other), api.ErrRange)
		checkCheck(t, snap(other, other), api.ErrRange)
	}
	for vol := range 8 {
		checkCheck(t, snap(vol, vol), api.ErrRange)
	}
}

func TestCheckBlock(t *testing.T) {
	for _, size := range append([]int{0, 33, 34, 64}, extremes...) {
		checkCheck(t, create(0, size), api.ErrRange)
		checkCheck(t, create(7, size), api.ErrRange)
	}
	for _, block := range append([]int{32, 33, 64}, extremes...) {
		checkCheck(t, put(0, block, 0), api.ErrRange)
		checkCheck(t, put(7, block, place(23, 15)), api.ErrRange)
		checkCheck(t, discard(0, block), api.ErrRange)
		checkCheck(t, discard(7, block), api.ErrRange)
	}
}

func TestCheckPlace(t *testing.T) {
	for _, z := range notPlaces() {
		checkCheck(t, put(0, 0, z), api.ErrRange)
		checkCheck(t, put(7, 31, z), api.ErrRange)
	}
	for _, z := range []complex128{complex(negativeZero, 0), complex(0, negativeZero), complex(negativeZero, negativeZero), complex(negativeZero, 15), complex(23, negativeZero)} {
		checkCheck(t, put(3, 4, z), api.OK)
	}
}

// oneOfEachKind are valid deltas, all fields of which are 0 that may be.
var oneOfEachKind = []api.Delta{create(0, 1), remove(0), snap(0, 1), put(0, 0, 0), discard(0, 0), create(7, 32), remove(7), snap(7, 0), put(7, 31, place(23, 15)), discard(7, 31)}

func TestCheckOtherFields(t *testing.T) {
	numbers := append([]int{1, 2, 7, 8, 31, 32}, extremes...)
	for _, d := range oneOfEachKind {
		for _, n := range numbers {
			if d.Kind != 3 {
				other := d
				other.Other = n
				checkCheck(t, other, api.ErrForm)
			}
			if d.Kind == 2 || d.Kind == 3 {
				block := d
				block.Block = n
				checkCheck(t, block, api.ErrForm)
			}
		}
		for _, z := range append(notPlaces(), 1, complex(0, 1), place(23, 15)) {
			if d.Kind != 4 && z != 0 {
				d.Place = z
				checkCheck(t, d, api.ErrForm)
			}
		}
	}
}

func TestCheckNegativeZeroIsZero(t *testing.T) {
	for _, d := range oneOfEachKind {
		if d.Kind == 4 {
			continue
		}
		for _, z := range []complex128{complex(negativeZero, 0), complex(0, negativeZero), complex(negativeZero, negativeZero)} {
			d.Place = z
			checkCheck(t, d, api.OK)
		}
	}
}

// ErrRange is told ahead of ErrForm, ErrArg ahead of both.
func TestCheckOrder(t *testing.T) {
	for _, d := range []api.Delta{
		{Kind: 1, Vol: 8, Block: 1, Other: 1}, {Kind: 1, Block: 0, Other: 1}, {Kind: 1, Block: 33, Place: 1}, {Kind: 1, Vol: -1, Block: 1, Place: -1},
		{Kind: 2, Vol: 8, Other: 1}, {Kind: 2, Vol: -1, Block: 1}, {Kind: 2, Vol: 8, Place: 1},
		{Kind: 3, Vol: 1, Other: 1, Block: 1}, {Kind: 3, Other: 8, Place: 1}, {Kind: 3, Vol: 8, Block: -1}, {Kind: 3, Block: 1},
		{Kind: 4, Place: -1, Other: 1}, {Kind: 4, Block: 32, Other: 1}, {Kind: 4, Vol: 8, Other: 8},
		{Kind: 5, Block: 32, Other: 1}, {Kind: 5, Block: -1, Place: 1}, {Kind: 5, Vol: 8, Place: 1},
	} {
		checkCheck(t, d, api.ErrRange)
		for _, kind := range []int{0, 6, -1} {
			d.Kind = kind
			checkCheck(t, d, api.ErrArg)
		}
	}
}

// verdict is what the chapter says of a delta, worked out from the list of the valid ones.
func verdict(all map[api.Delta][5]byte, d api.Delta) api.Errno {
	if d.Kind < 1 || d.Kind > 5 {
		return api.ErrArg
	}
	bare := api.Delta{Kind: d.Kind, Vol: d.Vol}
	if d.Kind == 3 {
		bare.Other = d.Other
	}
	if d.Kind == 1 || d.Kind == 4 || d.Kind == 5 {
		bare.Block = d.Block
	}
	if d.Kind == 4 {
		bare.Place = d.Place
	}
	if _, ok := all[bare]; !ok {
		return api.ErrRange
	}
	if bare != d {
		return api.ErrForm
	}
	return api.OK
}

func TestCheckAgainstList(t *testing.T) {
	all := valid()
	places := []complex128{0, 1, complex(0, 1), place(23, 15), place(24, 0), place(0, 16), -1, complex(0, -1), 0.5, complex(math.NaN(), 0), complex(0, math.Inf(1))}
	for kind := -1; kind <= 7; kind++ {
		for vol := -1; vol <= 9; vol++ {
			for other := -1; other <= 9; other++ {
				for _, block := range []int{-1, 0, 1, 2, 16, 31, 32, 33} {
					for _, z := range places {
						d := api.Delta{Kind: kind, Vol: vol, Other: other, Block: block, Place: z}
						checkCheck(t, d, verdict(all, d))
					}
				}
			}
		}
	}
}

// P7.1: Encode, Decode

func checkEncode(t *testing.T, d api.Delta, want ...byte) {
	t.Helper()
	if b, e := delta.Encode(d); !bytes.Equal(b, want) || e != api.OK {
		t.Errorf("Encode(%v) = %x, %d, want %x", d, b, e, want)
	}
}

func checkDecode(t *testing.T, b []byte, want api.Delta, wantE api.Errno) {
	t.Helper()
	d, e := delta.Decode(b)
	if d != want || e != wantE {
		t.Errorf("Decode(%x) = %v, %d, want %v, %d", b, d, e, want, wantE)
	}
	if !noNegativeZero(d.Place) {
		t.Errorf("Decode(%x): a negative zero", b)
	}
}

func noNegativeZero(z complex128) bool {
	return !(real(z) == 0 && math.Signbit(real(z))) && !(imag(z) == 0 && math.Signbit(imag(z)))
}

func TestEncode(t *testing.T) {
	checkEncode(t, create(0, 1), 1, 0, 1, 0, 0)
	checkEncode(t, create(7, 32), 1, 0x70, 32, 0, 0)
	checkEncode(t, remove(5), 2, 0x50, 0, 0, 0)
	checkEncode(t, snap(1, 0), 3, 0x10, 0, 0, 0)
	checkEncode(t, snap(0, 1), 3, 0x01, 0, 0, 0)
	checkEncode(t, snap(7, 6), 3, 0x76, 0, 0, 0)
	checkEncode(t, put(3, 9, place(2, 1)), 4, 0x30, 9, 2, 1)
	checkEncode(t, put(7, 31, place(23, 15)), 4, 0x70, 31, 23, 15)
	checkEncode(t, put(0, 0, 0), 4, 0, 0, 0, 0)
	checkEncode(t, discard(6, 30), 5, 0x60, 30, 0, 0)
	checkEncode(t, put(1, 2, complex(negativeZero, 3)), 4, 0x10, 2, 0, 3)
	checkEncode(t, put(1, 2, complex(3, negativeZero)), 4, 0x10, 2, 3, 0)
	checkEncode(t, api.Delta{Kind: 2, Vol: 1, Place: complex(negativeZero, negativeZero)}, 2, 0x10, 0, 0, 0)
}

func TestEncodeDecodeAll(t *testing.T) {
	for d, b := range valid() {
		checkEncode(t, d, b[:]...)
		checkDecode(t, b[:], d, api.OK)
	}
}

func TestEncodeNewMemory(t *testing.T) {
	first, _ := delta.Encode(put(3, 9, place(2, 1)))
	full := first[:cap(first)]
	for i := range full {
		full[i] = 0xff
	}
	checkEncode(t, put(3, 9, place(2, 1)), 4, 0x30, 9, 2, 1)
}

func TestDecodeLength(t *testing.T) {
	checkDecode(t, nil, api.Delta{}, api.ErrLength)
	for n := range 200 {
		b := make([]byte, n)
		copy(b, []byte{4, 0x30, 9, 2, 1})
		if n != 5 {
			checkDecode(t, b, api.Delta{}, api.ErrLength)
		}
	}
	checkDecode(t, make([]byte, 256+5), api.Delta{}, api.ErrLength)
	checkDecode(t, make([]byte, 1<<16+5), api.Delta{}, api.ErrLength)
	// The spare capacity is no part of it.
	checkDecode(t, []byte{4, 0x30, 9, 2, 1}[:4], api.Delta{}, api.ErrLength)
}

func TestDecodeForm(t *testing.T) {
	for _, b := range [][]byte{
		{0, 0, 0, 0, 0}, {0, 0, 1, 0, 0}, {6, 0, 0, 0, 0}, {255, 255, 255, 255, 255},
		{1, 0, 0, 0, 0}, {1, 0, 33, 0, 0}, {1, 0x80, 1, 0, 0}, {1, 1, 1, 0, 0}, {1, 0, 1, 1, 0}, {1, 0, 1, 0, 1},
		{2, 0, 1, 0, 0}, {2, 0x80, 0, 0, 0}, {2, 1, 0, 0, 0}, {2, 0, 0, 1, 0}, {2, 0, 0, 0, 1},
		{3, 0, 0, 0, 0}, {3, 0x77, 0, 0, 0}, {3, 0x08, 0, 0, 0}, {3, 0x80, 0, 0, 0}, {3, 0x10, 1, 0, 0}, {3, 0x10, 0, 1, 0},
		{4, 0, 32, 0, 0}, {4, 0, 0, 24, 0}, {4, 0, 0, 0, 16}, {4, 1, 0, 0, 0}, {4, 0x80, 0, 0, 0}, {4, 0, 0, 255, 0}, {4, 0, 0, 0, 255},
		{5, 0, 32, 0, 0}, {5, 0, 255, 0, 0}, {5, 0, 0, 1, 0}, {5, 0, 0, 0, 1}, {5, 1, 0, 0, 0}, {5, 0x80, 0, 0, 0},
	} {
		checkDecode(t, b, api.Delta{}, api.ErrForm)
	}
}

func TestDecodeAgainstList(t *testing.T) {
	known := map[[5]byte]api.Delta{}
	for d, b := range valid() {
		known[b] = d
	}
	edges := []byte{0, 1, 15, 16, 23, 24, 255}
	for _, kind := range []byte{0, 1, 2, 3, 4, 5, 6, 7, 0x81, 0x84, 255} {
		for vols := range 256 {
			for _, block := range []byte{0, 1, 2, 30, 31, 32, 33, 128, 255} {
				for _, segment := range edges {
					for _, slot := range edges {
						b := [5]byte{kind, byte(vols), block, segment, slot}
						want, ok := known[b]
						if ok {
							checkDecode(t, b[:], want, api.OK)
						} else {
							checkDecode(t, b[:], api.Delta{}, api.ErrForm)
						}
					}
				}
			}
		}
	}
}

func TestDecodeKeepsBytes(t *testing.T) {
	all := []byte{4, 0x30, 9, 2, 1, 77, 78, 79}
	if _, e := delta.Decode(all[:5]); e != api.OK {
		t.Errorf("Decode: %d", e)
	}
	if !bytes.Equal(all, []byte{4, 0x30, 9, 2, 1, 77, 78, 79}) {
		t.Errorf("Decode changed its argument: %v", all)
	}
}

// P7.2: Apply

// with returns the state after deltas that can all be applied.
func with(t *testing.T, list ...api.Delta) api.State {
	t.Helper()
	s, n, e := delta.Apply(api.State{}, list...)
	if n != 0 || e != api.OK {
		t.Fatalf("Apply(%v): %d, %d", list, n, e)
	}
	return s
}

// identical compares without the program: it also tells negative zeros from 0.
func identical(a, b api.State) bool {
	for i := range a.Entries {
		if a.Entries[i] != b.Entries[i] || len(a.Places[i]) != len(b.Places[i]) {
			return false
		}
		for j, z := range a.Places[i] {
			if !identicalPlace(z, b.Places[i][j]) {
				return false
			}
		}
	}
	return true
}

func identicalPlace(a, b complex128) bool {
	return math.Float64bits(real(a)) == math.Float64bits(real(b)) && math.Float64bits(imag(a)) == math.Float64bits(imag(b))
}

func checkApply(t *testing.T, s api.State, list []api.Delta, want api.State) {
	t.Helper()
	got, n, e := delta.Apply(s, list...)
	if !identical(got, want) || n != 0 || e != api.OK {
		t.Errorf("Apply(%v, %v) = %v, %d, %d, want %v", s, list, got, n, e, want)
	}
	if !delta.Sound(got) {
		t.Errorf("Apply(%v, %v) = %v, which is not sound", s, list, got)
	}
}

func checkApplyError(t *testing.T, s api.State, list []api.Delta, wantN int, wantE api.Errno) {
	t.Helper()
	got, n, e := delta.Apply(s, list...)
	if !identical(got, api.State{}) || n != wantN || e != wantE {
		t.Errorf("Apply(%v, %v) = %v, %d, %d, want %d, %d", s, list, got, n, e, wantN, wantE)
	}
}

// stateOf returns the state with these volumes and snapshots.
func stateOf(vols map[int]vol) api.State {
	var s api.State
	for id, v := range vols {
		s.Entries[id] = api.Entry{Kind: 1, Size: len(v.places)}
		if v.snapshot {
			s.Entries[id].Kind = 2
		}
		s.Places[id] = append([]complex128{}, v.places...)
	}
	return s
}

type vol struct {
	snapshot bool
	places   []complex128
}

func volume(places ...complex128) vol   { return vol{false, places} }
func snapshot(places ...complex128) vol { return vol{true, places} }

func TestApplyNothing(t *testing.T) {
	checkApply(t, api.State{}, nil, api.State{})
	checkApply(t, api.State{}, []api.Delta{}, api.State{})
	s := stateOf(map[int]vol{0: volume(-1, 5, 5), 7: snapshot(place(23, 15))})
	checkApply(t, s, nil, s)
}

func TestApplyCreate(t *testing.T) {
	checkApply(t, api.State{}, []api.Delta{create(0, 1)}, stateOf(map[int]vol{0: volume(-1)}))
	checkApply(t, api.State{}, []api.Delta{create(7, 3), create(2, 1)}, stateOf(map[int]vol{7: volume(-1, -1, -1), 2: volume(-1)}))
	var full api.State
	var list []api.Delta
	for id := range 8 {
		full.Entries[id] = api.Entry{Kind: 1, Size: 32}
		for range 32 {
			full.Places[id] = append(full.Places[id], -1)
		}
		list = append(list, create(id, 32))
	}
	checkApply(t, api.State{}, list, full)
	checkApplyError(t, full, []api.Delta{create(0, 1)}, 0, api.ErrArg)
	checkApplyError(t, full, []api.Delta{create(7, 32)}, 0, api.ErrArg)
	checkApplyError(t, stateOf(map[int]vol{3: snapshot(4)}), []api.Delta{create(3, 1)}, 0, api.ErrArg)
	checkApplyError(t, api.State{}, []api.Delta{create(3, 1), create(3, 1)}, 1, api.ErrArg)
}

func TestApplyDelete(t *testing.T) {
	s := stateOf(map[int]vol{1: volume(3, -1), 2: snapshot(3), 4: volume(9)})
	checkApply(t, s, []api.Delta{remove(1)}, stateOf(map[int]vol{2: snapshot(3), 4: volume(9)}))
	checkApply(t, s, []api.Delta{remove(2), remove(1)}, stateOf(map[int]vol{4: volume(9)}))
	checkApply(t, s, []api.Delta{remove(1), remove(2), remove(4)}, api.State{})
	checkApplyError(t, s, []api.Delta{remove(0)}, 0, api.ErrNone)
	checkApplyError(t, s, []api.Delta{remove(1), remove(1)}, 1, api.ErrNone)
	// What was deleted leaves nothing behind for a new one.
	checkApply(t, s, []api.Delta{remove(1), create(1, 3)}, stateOf(map[int]vol{1: volume(-1, -1, -1), 2: snapshot(3), 4: volume(9)}))
	checkApply(t, s, []api.Delta{remove(2), create(2, 1), put(2, 0, 8)}, stateOf(map[int]vol{1: volume(3, -1), 2: volume(8), 4: volume(9)}))
}

func TestApplySnap(t *testing.T) {
	s := stateOf(map[int]vol{1: volume(3, -1, complex(2, 7)), 2: snapshot(6, -1)})
	checkApply(t, s, []api.Delta{snap(1, 0)}, stateOf(map[int]vol{0: snapshot(3, -1, complex(2, 7)), 1: volume(3, -1, complex(2, 7)), 2: snapshot(6, -1)}))
	checkApply(t, s, []api.Delta{snap(2, 7)}, stateOf(map[int]vol{7: snapshot(6, -1), 1: volume(3, -1, complex(2, 7)), 2: snapshot(6, -1)}))
	checkApplyError(t, s, []api.Delta{snap(1, 2)}, 0, api.ErrArg)
	checkApplyError(t, s, []api.Delta{snap(2, 1)}, 0, api.ErrArg)
	checkApplyError(t, s, []api.Delta{snap(0, 3)}, 0, api.ErrNone)
	// A volume that does not exist is told ahead of another that does.
	checkApplyError(t, s, []api.Delta{snap(0, 1)}, 0, api.ErrNone)
	checkApplyError(t, s, []api.Delta{snap(1, 1)}, 0, api.ErrRange)
}

// A snapshot keeps its places, whatever becomes of its volume.
func TestApplySnapIsApart(t *testing.T) {
	s := with(t, create(0, 2), put(0, 0, 5), snap(0, 1), put(0, 0, 6), put(0, 1, 7), snap(0, 2), discard(0, 0))
	if want := stateOf(map[int]vol{0: volume(-1, 7), 1: snapshot(5, -1), 2: snapshot(6, 7)}); !identical(s, want) {
		t.Errorf("%v, want %v", s, want)
	}
	checkApply(t, s, []api.Delta{remove(0)}, stateOf(map[int]vol{1: snapshot(5, -1), 2: snapshot(6, 7)}))
	checkApply(t, s, []api.Delta{remove(1), remove(2)}, stateOf(map[int]vol{0: volume(-1, 7)}))
}

func TestApplyPutAndDiscard(t *testing.T) {
	s := stateOf(map[int]vol{5: volume(-1, 4, 4), 6: snapshot(4, 4, 4)})
	checkApply(t, s, []api.Delta{put(5, 0, place(23, 15))}, stateOf(map[int]vol{5: volume(place(23, 15), 4, 4), 6: snapshot(4, 4, 4)}))
	checkApply(t, s, []api.Delta{put(5, 2, 0)}, stateOf(map[int]vol{5: volume(-1, 4, 0), 6: snapshot(4, 4, 4)}))
	checkApply(t, s, []api.Delta{put(5, 1, 9), put(5, 1, 10)}, stateOf(map[int]vol{5: volume(-1, 10, 4), 6: snapshot(4, 4, 4)}))
	checkApply(t, s, []api.Delta{discard(5, 2)}, stateOf(map[int]vol{5: volume(-1, 4, -1), 6: snapshot(4, 4, 4)}))
	checkApply(t, s, []api.Delta{discard(5, 0)}, s)
	for _, d := range []api.Delta{put(5, 3, 1), put(5, 31, 1), discard(5, 3), discard(5, 31), put(5, 32, 1), discard(5, -1), put(5, 0, -1)} {
		checkApplyError(t, s, []api.Delta{d}, 0, api.ErrRange)
	}
	for _, d := range []api.Delta{put(6, 0, 1), put(6, 2, 1), discard(6, 0), put(6, 3, 1), discard(6, 3), discard(6, 31)} {
		checkApplyError(t, s, []api.Delta{d}, 0, api.ErrRead)
	}
	for _, d := range []api.Delta{put(0, 0, 1), discard(0, 0), put(7, 31, 1), discard(4, 31)} {
		checkApplyError(t, s, []api.Delta{d}, 0, api.ErrNone)
	}
}

// The errors of Check are told ahead of those of the kind.
func TestApplyChecksFirst(t *testing.T) {
	s := stateOf(map[int]vol{1: volume(3), 2: snapshot(6)})
	for _, c := range []struct {
		d api.Delta
		e api.Errno
	}{
		{api.Delta{}, api.ErrArg}, {api.Delta{Kind: 6, Vol: 1}, api.ErrArg}, {api.Delta{Kind: math.MinInt}, api.ErrArg},
		{create(1, 0), api.ErrRange}, {create(1, 33), api.ErrRange}, {create(8, 1), api.ErrRange},
		{api.Delta{Kind: 1, Vol: 1, Block: 1, Other: 1}, api.ErrForm}, {api.Delta{Kind: 1, Vol: 1, Block: 1, Place: 1}, api.ErrForm},
		{remove(8), api.ErrRange}, {remove(-1), api.ErrRange}, {api.Delta{Kind: 2, Block: 1}, api.ErrForm},
		{snap(0, 0), api.ErrRange}, {snap(0, 8), api.ErrRange}, {snap(-1, 1), api.ErrRange}, {api.Delta{Kind: 3, Vol: 1, Other: 2, Block: 1}, api.ErrForm},
		{put(0, 32, 0), api.ErrRange}, {put(2, 0, -1), api.ErrRange}, {put(2, 0, complex(math.NaN(), 0)), api.ErrRange}, {api.Delta{Kind: 4, Vol: 2, Other: 1}, api.ErrForm}, {api.Delta{Kind: 4, Vol: 1, Block: 1, Other: 1}, api.ErrForm},
		{discard(0, 32), api.ErrRange}, {discard(2, -1), api.ErrRange}, {api.Delta{Kind: 5, Vol: 2, Place: 1}, api.ErrForm}, {api.Delta{Kind: 5, Vol: 1, Block: 1, Place: 1}, api.ErrForm},
	} {
		checkApplyError(t, s, []api.Delta{c.d}, 0, c.e)
		checkApplyError(t, s, []api.Delta{put(1, 0, 4), discard(1, 0), c.d, {}}, 2, c.e)
	}
}

func TestApplyIndexOfFirst(t *testing.T) {
	for wrong := range 40 {
		var list []api.Delta
		for range 40 {
			list = append(list, put(0, 0, 1))
		}
		list[wrong] = put(1, 0, 1)
		if wrong < 39 {
			list[39] = api.Delta{}
		}
		checkApplyError(t, with(t, create(0, 1)), list, wrong, api.ErrNone)
	}
}

func TestApplyNotSound(t *testing.T) {
	for _, s := range notSound() {
		checkApplyError(t, s, nil, 0, api.ErrForm)
		checkApplyError(t, s, []api.Delta{create(7, 1)}, 0, api.ErrForm)
		checkApplyError(t, s, []api.Delta{{}}, 0, api.ErrForm)
	}
}

func TestApplyWithoutNegativeZeros(t *testing.T) {
	s := stateOf(map[int]vol{0: volume(complex(negativeZero, 3), complex(3, negativeZero), complex(negativeZero, negativeZero), complex(-1, negativeZero))})
	clean := []complex128{complex(0, 3), complex(3, 0), 0, -1}
	checkApply(t, s, nil, stateOf(map[int]vol{0: volume(clean...)}))
	checkApply(t, s, []api.Delta{snap(0, 1)}, stateOf(map[int]vol{0: volume(clean...), 1: snapshot(clean...)}))
	checkApply(t, s, []api.Delta{put(0, 3, complex(negativeZero, 4)), put(0, 0, complex(4, negativeZero))}, stateOf(map[int]vol{0: volume(4, 3, 0, complex(0, 4))}))
}

// model is the chapter once more, as a map of the volumes that exist.
func model(vols map[int]vol, d api.Delta) api.Errno {
	v, exists := vols[d.Vol]
	if d.Kind == 1 {
		if exists {
			return api.ErrArg
		}
		var places []complex128
		for range d.Block {
			places = append(places, -1)
		}
		vols[d.Vol] = volume(places...)
		return api.OK
	}
	if !exists {
		return api.ErrNone
	}
	if d.Kind == 2 {
		delete(vols, d.Vol)
		return api.OK
	}
	if d.Kind == 3 {
		if _, taken := vols[d.Other]; taken {
			return api.ErrArg
		}
		vols[d.Other] = snapshot(append([]complex128{}, v.places...)...)
		return api.OK
	}
	if v.snapshot {
		return api.ErrRead
	}
	if d.Block >= len(v.places) {
		return api.ErrRange
	}
	if v.places[d.Block] = -1; d.Kind == 4 {
		v.places[d.Block] = d.Place
	}
	return api.OK
}

type dice uint32

func (d *dice) roll(n int) int {
	*d = *d*1664525 + 1013904223
	return int(*d>>8) % n
}

// some returns any valid delta; small sizes and few volumes, so that most can be applied.
func (d *dice) some() api.Delta {
	id, block := d.roll(4)*2+d.roll(2), d.roll(4)
	switch d.roll(12) {
	case 0, 1:
		return create(id, 1+block+28*d.roll(2))
	case 2:
		return remove(id)
	case 3:
		return snap(id, (id+1+d.roll(7))%8)
	case 4, 5:
		return discard(id, block)
	}
	return put(id, block, place(d.roll(24), d.roll(16)))
}

func TestApplyAgainstModel(t *testing.T) {
	roll := dice(7)
	errors := map[api.Errno]int{}
	for range 60 {
		vols := map[int]vol{}
		var s api.State
		var list []api.Delta
		for range 120 {
			d := roll.some()
			want := model(vols, d)
			errors[want]++
			if want != api.OK {
				checkApplyError(t, s, []api.Delta{d}, 0, want)
				checkApplyError(t, api.State{}, append(list, d), len(list), want)
				continue
			}
			checkApply(t, s, []api.Delta{d}, stateOf(vols))
			list = append(list, d)
			s = stateOf(vols)
		}
		checkApply(t, api.State{}, list, s)
	}
	for _, e := range []api.Errno{api.OK, api.ErrArg, api.ErrNone, api.ErrRead, api.ErrRange} {
		if errors[e] < 50 {
			t.Errorf("error %d came up %d times only", e, errors[e])
		}
	}
}

// Any list of deltas, applied in two parts, has the same result.
func TestApplyInParts(t *testing.T) {
	list := []api.Delta{create(2, 3), put(2, 1, 5), snap(2, 0), put(2, 1, 6), discard(2, 0), snap(0, 1), remove(0), create(0, 1)}
	want := with(t, list...)
	for n := range len(list) + 1 {
		checkApply(t, with(t, list[:n]...), list[n:], want)
	}
}

// R4: memory

// roomy returns the state with spare capacity in each of Places, and that memory.
func roomy(s api.State) (api.State, [][]complex128) {
	var all [][]complex128
	for i := range s.Places {
		memory := append(append([]complex128{}, s.Places[i]...), 77, 78, 79)
		all = append(all, memory)
		s.Places[i] = memory[:len(s.Places[i])]
	}
	return s, all
}

func TestApplyKeepsArguments(t *testing.T) {
	before := stateOf(map[int]vol{0: volume(1, 2, -1), 1: snapshot(3, -1), 2: volume(4)})
	s, memory := roomy(before)
	list := []api.Delta{put(0, 0, 9), discard(0, 1), snap(0, 3), remove(2), create(2, 3), put(2, 2, 8), remove(1), snap(2, 1), {Kind: 6}}
	kept := append([]api.Delta{}, list...)
	for n := range len(list) + 1 {
		delta.Apply(s, list[:n]...)
	}
	if !identical(s, before) {
		t.Errorf("Apply changed the state: %v", s)
	}
	for i, m := range memory {
		if rest := m[len(m)-3:]; rest[0] != 77 || rest[1] != 78 || rest[2] != 79 {
			t.Errorf("Apply changed the spare capacity of %d: %v", i, rest)
		}
	}
	for i := range list {
		if list[i] != kept[i] {
			t.Errorf("Apply changed delta %d: %v", i, list[i])
		}
	}
}

// The places of the argument may overlap one another; those of the result do not.
func TestApplyOverlappingArgument(t *testing.T) {
	memory := []complex128{1, 2, 3}
	s := stateOf(map[int]vol{0: volume(1, 2), 1: volume(2, 3)})
	s.Places[0], s.Places[1] = memory[:2], memory[1:]
	checkApply(t, s, []api.Delta{put(0, 1, 9)}, stateOf(map[int]vol{0: volume(1, 9), 1: volume(2, 3)}))
	checkApply(t, s, []api.Delta{discard(1, 0), put(0, 0, 7)}, stateOf(map[int]vol{0: volume(7, 2), 1: volume(-1, 3)}))
	if memory[0] != 1 || memory[1] != 2 || memory[2] != 3 {
		t.Errorf("Apply changed its argument: %v", memory)
	}
}

func TestApplyNewMemory(t *testing.T) {
	before := stateOf(map[int]vol{0: volume(1, 2, -1), 1: snapshot(3, -1), 5: volume(6)})
	s, memory := roomy(before)
	list := []api.Delta{snap(0, 2), snap(2, 3), create(4, 5), put(0, 0, 9), remove(5)}
	want, _, _ := delta.Apply(before, list...)
	for id := range 8 {
		got, _, _ := delta.Apply(s, list...)
		same, _, _ := delta.Apply(s, list...)
		full := got.Places[id][:cap(got.Places[id])]
		for i := range full {
			full[i] = 55
		}
		got.Places[id] = want.Places[id]
		if !identical(got, want) {
			t.Errorf("the places of %d share memory with others of the result: %v", id, got)
		}
		if !identical(same, want) {
			t.Errorf("the places of %d share memory with another result: %v", id, same)
		}
		if !identical(s, before) {
			t.Errorf("the places of %d share memory with the argument: %v", id, s)
		}
	}
	for i, m := range memory {
		if m[len(m)-3] != 77 {
			t.Errorf("the result shares the spare capacity of %d", i)
		}
	}
}

func TestNoStateKept(t *testing.T) {
	for range 3 {
		checkApply(t, api.State{}, []api.Delta{create(0, 1), put(0, 0, 3)}, stateOf(map[int]vol{0: volume(3)}))
		checkApplyError(t, api.State{}, []api.Delta{create(0, 1), create(0, 1)}, 1, api.ErrArg)
		checkApplyError(t, api.State{}, []api.Delta{remove(0)}, 0, api.ErrNone)
	}
}

// P7.3: Sound

func checkSound(t *testing.T, s api.State, want bool) {
	t.Helper()
	if delta.Sound(s) != want {
		t.Errorf("Sound(%v) is not %v", s, want)
	}
}

// notSound are states each of which has one fault.
func notSound() []api.State {
	var list []api.State
	add := func(id int, entry api.Entry, places ...complex128) {
		s := stateOf(map[int]vol{2: volume(1, -1), 3: snapshot(1)})
		s.Entries[id], s.Places[id] = entry, places
		list = append(list, s)
	}
	blank := func(n int) []complex128 { return make([]complex128, n) }
	for _, id := range []int{0, 1, 2, 6, 7} {
		for _, kind := range append([]int{3, 4, 255}, extremes...) {
			add(id, api.Entry{Kind: kind, Size: 0})
			add(id, api.Entry{Kind: kind, Size: 1}, 0)
		}
		for _, size := range append([]int{1, 2, 32}, extremes...) {
			add(id, api.Entry{Kind: 0, Size: size})
		}
		add(id, api.Entry{Kind: 0, Size: 1}, 0)
		add(id, api.Entry{Kind: 0, Size: 2}, -1, -1)
		add(id, api.Entry{}, 0)
		add(id, api.Entry{}, -1)
		for _, kind := range []int{1, 2} {
			for _, size := range append([]int{0, 33}, extremes...) {
				add(id, api.Entry{Kind: kind, Size: size})
			}
			add(id, api.Entry{Kind: kind, Size: 33}, blank(33)...)
			add(id, api.Entry{Kind: kind, Size: 256}, blank(256)...)
			add(id, api.Entry{Kind: kind, Size: 1})
			add(id, api.Entry{Kind: kind, Size: 1}, 0, 0)
			add(id, api.Entry{Kind: kind, Size: 32}, blank(31)...)
			add(id, api.Entry{Kind: kind, Size: 32}, blank(33)...)
			for _, z := range notPlaces() {
				if z == -1 {
					continue
				}
				add(id, api.Entry{Kind: kind, Size: 1}, z)
				add(id, api.Entry{Kind: kind, Size: 3}, -1, 0, z)
				add(id, api.Entry{Kind: kind, Size: 3}, z, 0, -1)
			}
		}
	}
	return list
}

func TestSound(t *testing.T) {
	checkSound(t, api.State{}, true)
	for id := range 8 {
		for size := 1; size <= 32; size++ {
			places := make([]complex128, size)
			checkSound(t, stateOf(map[int]vol{id: volume(places...)}), true)
			places[size-1] = -1
			checkSound(t, stateOf(map[int]vol{id: snapshot(places...), (id + 3) % 8: volume(1)}), true)
		}
	}
	for segment := range 24 {
		for slot := range 16 {
			checkSound(t, stateOf(map[int]vol{4: volume(-1, place(segment, slot))}), true)
		}
	}
	checkSound(t, stateOf(map[int]vol{4: volume(complex(-1, negativeZero), complex(negativeZero, negativeZero))}), true)
	// Nothing forbids that blocks of volumes have one place.
	checkSound(t, stateOf(map[int]vol{4: volume(3, 3), 5: volume(3)}), true)
	empty := api.State{}
	for i := range empty.Places {
		empty.Places[i] = []complex128{}
	}
	checkSound(t, empty, true)
	for id := range 8 {
		empty.Places[id] = make([]complex128, 0, 4)
	}
	checkSound(t, empty, true)
}

func TestNotSound(t *testing.T) {
	for _, s := range notSound() {
		checkSound(t, s, false)
	}
}

// P7.3: Same

func checkSame(t *testing.T, a, b api.State, want bool) {
	t.Helper()
	if delta.Same(a, b) != want {
		t.Errorf("Same(%v, %v) is not %v", a, b, want)
	}
	if delta.Same(b, a) != want {
		t.Errorf("Same(%v, %v) is not %v", b, a, want)
	}
}

func TestSame(t *testing.T) {
	full := func() api.State {
		vols := map[int]vol{}
		for id := range 8 {
			vols[id] = vol{id%2 == 1, []complex128{-1, place(id, 0), place(0, id)}}
		}
		return stateOf(vols)
	}
	checkSame(t, api.State{}, api.State{}, true)
	checkSame(t, full(), full(), true)
	checkSame(t, full(), api.State{}, false)
	for id := range 8 {
		other := full()
		other.Entries[id].Kind = 3 - other.Entries[id].Kind
		checkSame(t, full(), other, false)
		other = full()
		other.Entries[id].Size++
		checkSame(t, full(), other, false)
		other = full()
		other.Places[id] = other.Places[id][:2]
		checkSame(t, full(), other, false)
		other = full()
		other.Places[id] = append(other.Places[id], -1)
		checkSame(t, full(), other, false)
		for block := range 3 {
			other = full()
			other.Places[id][block] = 20
			checkSame(t, full(), other, false)
			other.Places[id][block] = complex(0, 14)
			checkSame(t, full(), other, false)
		}
		other = full()
		other.Places[id] = nil
		checkSame(t, full(), other, false)
	}
	other := full()
	other.Places[1], other.Places[3] = other.Places[3], other.Places[1]
	checkSame(t, full(), other, false)
	other = full()
	other.Places[1][0], other.Places[1][1] = other.Places[1][1], other.Places[1][0]
	checkSame(t, full(), other, false)
}

// Nil and empty slices are one, and so are the zeros.
func TestSameEquivalents(t *testing.T) {
	var empty api.State
	for id := range 8 {
		empty.Places[id] = make([]complex128, 0, id)
	}
	checkSame(t, api.State{}, empty, true)
	zeros := stateOf(map[int]vol{0: volume(0, complex(3, 0))})
	negative := stateOf(map[int]vol{0: volume(complex(negativeZero, negativeZero), complex(3, negativeZero))})
	checkSame(t, zeros, negative, true)
}

// States that are not sound can be compared as well.
func TestSameNotSound(t *testing.T) {
	list := notSound()
	for i, s := range list[:300] {
		checkSame(t, s, api.State{}, false)
		checkSame(t, s, list[(i+1)%len(list)], identical(s, list[(i+1)%len(list)]))
	}
	var odd, odder api.State
	odd.Entries[3] = api.Entry{Kind: math.MaxInt, Size: math.MinInt}
	odd.Places[5] = []complex128{complex(math.Inf(1), 0.5), 1e300}
	odder = odd
	odder.Places[5] = append([]complex128{}, odd.Places[5]...)
	checkSame(t, odd, odder, true)
	odder.Places[5][0] = complex(math.Inf(-1), 0.5)
	checkSame(t, odd, odder, false)
	// A NaN equals nothing, not even itself.
	odd.Places[5] = []complex128{complex(math.NaN(), 0)}
	checkSame(t, odd, odd, false)
}

func TestSoundAndSameKeepArguments(t *testing.T) {
	before := stateOf(map[int]vol{0: volume(1, complex(negativeZero, 2), -1), 1: snapshot(3)})
	s, memory := roomy(before)
	delta.Sound(s)
	delta.Same(s, s)
	if !identical(s, before) {
		t.Errorf("the state was changed: %v", s)
	}
	for i, m := range memory {
		if rest := m[len(m)-3:]; rest[0] != 77 || rest[1] != 78 || rest[2] != 79 {
			t.Errorf("the spare capacity of %d was changed: %v", i, rest)
		}
	}
}
