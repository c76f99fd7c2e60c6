package leaf_test

import (
	"bytes"
	"encoding/binary"
	"hash/crc32"
	"math"
	"math/bits"
	"slices"
	"testing"

	"stopcock/api"
	"stopcock/leaf"
)

// The limits are written as numbers: one that the program misreads shows.
const (
	greatestSeq = 1073741824
	bodySize    = 60
	sectorSize  = 64
	partSize    = 52
	partAt      = 6
)

// negativeZero is written as a call: the constant -0.0 is a positive zero.
var negativeZero = math.Copysign(0, -1)

var (
	small = api.Plat{Segments: 6, Blocks: 2}
	some  = api.Plat{Segments: 9, Blocks: 4}
	great = api.Plat{Segments: 24, Blocks: 16}
)

// notSeqs have low bits that look like a valid seq if a conversion cuts them off.
var notSeqs = []int{
	0, -1, -2, -256, -greatestSeq, greatestSeq + 1, greatestSeq + 2, 2 * greatestSeq, 1<<32 + 1, 1<<32 - 1, 1 << 40, -(1 << 32) + 1,
	math.MaxInt32, math.MinInt32, math.MinInt32 + 1, math.MaxInt, math.MaxInt - 1, math.MinInt, math.MinInt + 1,
}

// seqs have bits in each of their bytes, and no two bytes alike.
var seqs = []int{1, 2, 255, 256, 300, 65535, 65536, 0x01020304, 0x3F3E3D3C, greatestSeq - 1, greatestSeq}

// geometries are all valid ones.
func geometries() []api.Plat {
	var list []api.Plat
	for segments := 6; segments <= 24; segments++ {
		for blocks := 2; blocks <= 16; blocks++ {
			list = append(list, api.Plat{Segments: segments, Blocks: blocks})
		}
	}
	return list
}

// dice returns a function that returns numbers from 0 to n - 1, the same ones in each run.
func dice(seed uint64) func(n int) int {
	return func(n int) int {
		seed = seed*6364136223846793005 + 1442695040888963407
		return int(seed>>33) % n
	}
}

func place(segment, slot int) complex128 { return complex(float64(segment), float64(slot)) }

// unplaced returns the places of so many blocks that have none.
func unplaced(size int) []complex128 {
	return slices.Repeat([]complex128{-1}, size)
}

// first returns the first n places of a geometry.
func first(p api.Plat, n int) []complex128 {
	var list []complex128
	for i := range n {
		list = append(list, place(i/p.Blocks, i%p.Blocks))
	}
	return list
}

// volumes returns a state with a volume or snapshot for each list of places that is not empty.
func volumes(lists ...[]complex128) api.State {
	var s api.State
	for id, places := range lists {
		if len(places) > 0 {
			s.Entries[id] = api.Entry{Kind: 1 + id%2, Size: len(places)}
			s.Places[id] = slices.Clone(places)
		}
	}
	return s
}

// sized returns a state with that number of blocks in all, none of which has a place.
func sized(blocks int) api.State {
	var lists [][]complex128
	for ; blocks > 0; blocks -= 32 {
		lists = append(lists, unplaced(min(blocks, 32)))
	}
	return volumes(lists...)
}

// capacity is the number of live places that fit in a geometry.
func capacity(p api.Plat) int { return (p.Segments - 4) * p.Blocks }

// spread returns a state with so many different places of a geometry, in as few volumes as hold them.
func spread(p api.Plat, live int) api.State {
	return volumes(slices.Collect(slices.Chunk(first(p, live), 32))...)
}

// shuffled returns a state whose sizes and places, of which some are shared, are thrown.
func shuffled(p api.Plat, roll func(int) int) api.State {
	var pool []complex128
	for range capacity(p) {
		pool = append(pool, place(roll(p.Segments), roll(p.Blocks)))
	}
	var s api.State
	for id := range 8 {
		if kind := roll(3); kind != 0 {
			s.Entries[id] = api.Entry{Kind: kind, Size: 1 + roll([]int{1, 4, 32}[roll(3)])}
			s.Places[id] = unplaced(s.Entries[id].Size)
		}
		for block := range s.Places[id] {
			if roll(4) != 0 {
				s.Places[id][block] = pool[roll(len(pool))]
			}
		}
	}
	return s
}

// sameState also tells negative zeros from 0.
func sameState(a, b api.State) bool {
	identical := func(a, b complex128) bool {
		return math.Float64bits(real(a)) == math.Float64bits(real(b)) && math.Float64bits(imag(a)) == math.Float64bits(imag(b))
	}
	for id := range a.Places {
		if !slices.EqualFunc(a.Places[id], b.Places[id], identical) {
			return false
		}
	}
	return a.Entries == b.Entries
}

func samePages(a, b [][]byte) bool { return slices.EqualFunc(a, b, bytes.Equal) }

func copyOf(pages [][]byte) [][]byte {
	list := slices.Clone(pages)
	for i := range list {
		list[i] = slices.Clone(list[i])
	}
	return list
}

// sumOf is the checksum by the library, which has the same polynomial but the least significant bit first.
func sumOf(b []byte) uint32 {
	mirrored := make([]byte, len(b))
	for i, x := range b {
		mirrored[i] = bits.Reverse8(x)
	}
	return bits.Reverse32(crc32.ChecksumIEEE(mirrored))
}

// sealed returns the page of up to 60 bytes.
func sealed(body ...byte) []byte {
	body = append(slices.Clone(body), make([]byte, bodySize-len(body))...)
	return binary.BigEndian.AppendUint32(body, sumOf(body))
}

// header returns a header, whatever it states.
func header(seq int, p api.Plat, count, size int, sum uint32) []byte {
	b := binary.BigEndian.AppendUint32([]byte("SLAT"), uint32(seq))
	b = append(b, byte(p.Segments), byte(p.Blocks), byte(count), byte(size>>8), byte(size))
	return sealed(binary.BigEndian.AppendUint32(b, sum)...)
}

// leafOf returns a leaf, whatever its text.
func leafOf(seq, number int, part []byte) []byte {
	b := binary.BigEndian.AppendUint32(nil, uint32(seq))
	return sealed(append(append(b, byte(number), byte(len(part))), part...)...)
}

// pagesOf returns the pages whose leaves have these parts of a text, whatever it is.
func pagesOf(p api.Plat, seq int, parts ...[]byte) [][]byte {
	text := bytes.Join(parts, nil)
	pages := [][]byte{header(seq, p, len(parts), len(text), sumOf(text))}
	for i, part := range parts {
		pages = append(pages, leafOf(seq, i, part))
	}
	return pages
}

// textOf returns the text of a state.
func textOf(s api.State, p api.Plat) []byte {
	var text []byte
	for id := range 8 {
		text = append(text, byte(s.Entries[id].Kind), byte(s.Entries[id].Size))
		for _, z := range s.Places[id] {
			n := 0
			if z != -1 {
				n = int(real(z))*p.Blocks + int(imag(z)) + 1
			}
			text = binary.BigEndian.AppendUint16(text, uint16(n))
		}
	}
	return text
}

// inParts cuts a text as the leaves have it.
func inParts(text []byte) [][]byte { return slices.Collect(slices.Chunk(text, partSize)) }

// encodeOf is a reference for Encode of what is valid.
func encodeOf(s api.State, p api.Plat, seq int) [][]byte {
	return pagesOf(p, seq, inParts(textOf(s, p))...)
}

// isClosed reports whether a page is sealed.
func isClosed(page []byte) bool {
	return len(page) == sectorSize && binary.BigEndian.Uint32(page[bodySize:]) == sumOf(page[:bodySize])
}

// isZero reports whether all bytes are 0.
func isZero(b []byte) bool { return !bytes.ContainsFunc(b, func(r rune) bool { return r != 0 }) }

// decodeOf is a reference for Decode, field by field; it returns false if the pages are no result of Encode.
func decodeOf(pages [][]byte) (s api.State, p api.Plat, seq int, ok bool) {
	if len(pages) < 2 || slices.ContainsFunc(pages, func(page []byte) bool { return !isClosed(page) }) {
		return
	}
	h := pages[0]
	seq, p = int(binary.BigEndian.Uint32(h[4:])), api.Plat{Segments: int(h[8]), Blocks: int(h[9])}
	if string(h[:4]) != "SLAT" || seq < 1 || seq > greatestSeq || !isZero(h[17:bodySize]) || int(h[10]) != len(pages)-1 {
		return
	}
	var text []byte
	for i, page := range pages[1:] {
		if int(binary.BigEndian.Uint32(page)) != seq || int(page[4]) != i || len(text)%partSize != 0 {
			return
		}
		size := int(page[5])
		if size < 1 || size > partSize || !isZero(page[partAt+size:bodySize]) {
			return
		}
		text = append(text, page[partAt:partAt+size]...)
	}
	if len(text) != int(binary.BigEndian.Uint16(h[11:])) || sumOf(text) != binary.BigEndian.Uint32(h[13:]) {
		return
	}
	if p.Segments < 6 || p.Segments > 24 || p.Blocks < 2 || p.Blocks > 16 {
		return
	}
	s, ok = stateOf(text, p)
	return
}

// stateOf returns the state that a text is of, and whether it is one.
func stateOf(text []byte, p api.Plat) (s api.State, ok bool) {
	live := map[int]bool{}
	for id := range 8 {
		if len(text) < 2 {
			return s, false
		}
		kind, size := int(text[0]), int(text[1])
		if kind > 2 || size > 32 || (kind == 0) != (size == 0) || len(text) < 2+2*size {
			return s, false
		}
		s.Entries[id] = api.Entry{Kind: kind, Size: size}
		for block := range size {
			n := int(binary.BigEndian.Uint16(text[2+2*block:]))
			if n > p.Segments*p.Blocks {
				return s, false
			}
			z := complex128(-1)
			if n > 0 {
				z, live[n] = place((n-1)/p.Blocks, (n-1)%p.Blocks), true
			}
			s.Places[id] = append(s.Places[id], z)
		}
		text = text[2+2*size:]
	}
	return s, len(text) == 0 && len(live) <= capacity(p)
}

func checkEncode(t *testing.T, s api.State, p api.Plat, seq int, want [][]byte, wantE api.Errno) {
	t.Helper()
	if pages, e := leaf.Encode(s, p, seq); e != wantE || !samePages(pages, want) {
		t.Fatalf("Encode(%v, %v, %d) = %x, %d, want %x, %d", s, p, seq, pages, e, want, wantE)
	}
}

// checkBoth checks both directions for what is valid.
func checkBoth(t *testing.T, s api.State, p api.Plat, seq int) {
	t.Helper()
	checkEncode(t, s, p, seq, encodeOf(s, p, seq), api.OK)
	checkDecode(t, encodeOf(s, p, seq), s, p, seq)
}

func checkDecode(t *testing.T, pages [][]byte, wantS api.State, wantP api.Plat, wantSeq int) {
	t.Helper()
	if s, p, seq, e := leaf.Decode(pages); e != api.OK || p != wantP || seq != wantSeq || !sameState(s, wantS) {
		t.Fatalf("Decode(%x) = %v, %v, %d, %d, want %v, %v, %d, 0", pages, s, p, seq, e, wantS, wantP, wantSeq)
	}
}

func checkCorrupt(t *testing.T, pages [][]byte) {
	t.Helper()
	s, p, seq, e := leaf.Decode(pages)
	if e != api.ErrCorrupt || p != (api.Plat{}) || seq != 0 || !sameState(s, api.State{}) {
		t.Fatalf("Decode(%x) = %v, %v, %d, %d, want ErrCorrupt", pages, s, p, seq, e)
	}
}

// checkDecoded checks Decode against the reference, and returns whether the pages were decoded.
func checkDecoded(t *testing.T, pages [][]byte) bool {
	t.Helper()
	s, p, seq, ok := decodeOf(pages)
	if ok {
		checkDecode(t, pages, s, p, seq)
	} else {
		checkCorrupt(t, pages)
	}
	return ok
}

func checkCount(t *testing.T, h []byte, wantCount, wantSeq int, wantE api.Errno) {
	t.Helper()
	if count, seq, e := leaf.Count(h); count != wantCount || seq != wantSeq || e != wantE {
		t.Fatalf("Count(%x) = %d, %d, %d, want %d, %d, %d", h, count, seq, e, wantCount, wantSeq, wantE)
	}
}

// P13.1: Encode

func TestEncodeWrittenOut(t *testing.T) {
	s := volumes(nil, []complex128{place(2, 3), -1, place(8, 3)}, nil, nil, nil, nil, nil, []complex128{place(0, 0)})
	text := "\x00\x00" + "\x02\x03\x00\x0c\x00\x00\x00\x24" + "\x00\x00\x00\x00\x00\x00\x00\x00\x00\x00" + "\x02\x01\x00\x01"
	head := "SLAT\x01\x02\x03\x04\x09\x04\x01\x00\x18" + string(binary.BigEndian.AppendUint32(nil, sumOf([]byte(text))))
	pages := [][]byte{sealed([]byte(head)...), sealed([]byte("\x01\x02\x03\x04\x00\x18" + text)...)}
	checkEncode(t, s, some, 0x01020304, pages, api.OK)
	checkDecode(t, pages, s, some, 0x01020304)
}

// A pool without volumes has eight entries of two zero bytes each.
func TestEncodeOfNothing(t *testing.T) {
	for _, p := range geometries() {
		for _, seq := range seqs {
			pages := [][]byte{header(seq, p, 1, 16, sumOf(make([]byte, 16))), leafOf(seq, 0, make([]byte, 16))}
			checkEncode(t, api.State{}, p, seq, pages, api.OK)
			checkDecode(t, pages, api.State{}, p, seq)
		}
	}
}

// Each number of blocks there may be, so that each leaf is the last one, and has each even number of bytes.
func TestEverySize(t *testing.T) {
	for blocks := range 8*32 + 1 {
		s := sized(blocks)
		for _, seq := range seqs {
			checkBoth(t, s, great, seq)
		}
		leaves := (16 + 2*blocks + 51) / 52
		if pages, e := leaf.Encode(s, great, 1); e != api.OK || len(pages) != 1+leaves {
			t.Fatalf("%d blocks have %d pages, %d, want %d leaves", blocks, len(pages), e, leaves)
		}
	}
}

// Each place of each geometry, in the first block and in the last one.
func TestEveryPlace(t *testing.T) {
	for _, p := range geometries() {
		for segment := range p.Segments {
			for slot := range p.Blocks {
				z := place(segment, slot)
				checkBoth(t, volumes([]complex128{z}), p, 7)
				s := sized(8 * 32)
				s.Places[7][31] = z
				pages, e := leaf.Encode(s, p, 7)
				n := segment*p.Blocks + slot + 1
				if e != api.OK || pages[11][partAt+6] != byte(n>>8) || pages[11][partAt+7] != byte(n) {
					t.Fatalf("%v, %v: %x, %d, want %d", p, z, pages, e, n)
				}
			}
		}
	}
}

func TestMany(t *testing.T) {
	roll := dice(1)
	for range 4000 {
		p := api.Plat{Segments: 6 + roll(19), Blocks: 2 + roll(15)}
		checkBoth(t, shuffled(p, roll), p, 1+roll([]int{2, 300, greatestSeq}[roll(3)]))
	}
}

// Live places are counted once, whatever the number of blocks that have them.
func TestUpToCapacity(t *testing.T) {
	for _, p := range geometries() {
		limit := min(capacity(p), 8*32)
		checkBoth(t, spread(p, limit), p, 1)
		if capacity(p)+1 > 8*32 {
			continue
		}
		above := spread(p, limit+1)
		checkEncode(t, above, p, 1, nil, api.ErrSpace)
		checkCorrupt(t, encodeOf(above, p, 1))
	}
	shared := volumes(first(small, 4), first(small, 4), first(small, 3), slices.Repeat(first(small, 4), 8))
	checkBoth(t, shared, small, 1)
	shared.Places[3][31] = place(5, 1)
	checkEncode(t, shared, small, 1, nil, api.ErrSpace)
	checkCorrupt(t, encodeOf(shared, small, 1))
}

func TestNegativeZeros(t *testing.T) {
	zeros := volumes([]complex128{complex(negativeZero, negativeZero), complex(negativeZero, 3), complex(5, negativeZero), complex(-1, negativeZero)})
	plain := volumes([]complex128{0, place(0, 3), place(5, 0), -1})
	pages := encodeOf(plain, some, 9)
	checkEncode(t, zeros, some, 9, pages, api.OK)
	checkDecode(t, pages, plain, some, 9)
}

func TestEncodeRefusesSeqs(t *testing.T) {
	unsound := api.State{Entries: [8]api.Entry{{Kind: 1, Size: 2}}}
	for _, seq := range notSeqs {
		checkEncode(t, api.State{}, some, seq, nil, api.ErrArg)
		// It is the first error, whatever else is wrong.
		for _, s := range []api.State{unsound, volumes([]complex128{place(9, 0)}), spread(some, 21)} {
			checkEncode(t, s, some, seq, nil, api.ErrArg)
			checkEncode(t, s, api.Plat{}, seq, nil, api.ErrArg)
		}
	}
}

func TestEncodeRefusesGeometries(t *testing.T) {
	unsound := api.State{Entries: [8]api.Entry{{Kind: 1, Size: 2}}}
	for _, n := range []int{-1, 0, 1, 17, 25, 256 + 6, 1<<32 + 6, math.MaxInt, math.MinInt, math.MinInt + 6} {
		for _, s := range []api.State{{}, unsound, volumes([]complex128{place(23, 15)})} {
			checkEncode(t, s, api.Plat{Segments: 6, Blocks: n}, 1, nil, api.ErrArg)
			if n != 17 {
				checkEncode(t, s, api.Plat{Segments: n, Blocks: 6}, 1, nil, api.ErrArg)
			}
		}
	}
}

func TestEncodeRefusesStates(t *testing.T) {
	for id := range 8 {
		for _, entry := range []api.Entry{{Kind: 0, Size: 1}, {Kind: 3, Size: 1}, {Kind: 1, Size: 0}, {Kind: 2, Size: 33}, {Kind: 257, Size: 1}, {Kind: 1, Size: 257}, {Kind: -1, Size: -1}} {
			s := spread(small, 2)
			s.Entries[id], s.Places[id] = entry, unplaced(max(entry.Size, 0))
			checkEncode(t, s, small, 1, nil, api.ErrForm)
			// Where a place is, or how many there are, matters less.
			s.Places[(id+1)%8] = []complex128{place(23, 15)}
			checkEncode(t, s, small, 1, nil, api.ErrForm)
		}
		for _, places := range [][]complex128{nil, unplaced(1), unplaced(3), {-1, -2}, {0.5, -1}, {place(24, 0), 0}, {0, place(0, 16)}, {complex(math.NaN(), 0), 0}, {0, complex(0, math.Inf(1))}} {
			s := sized(0)
			s.Entries[id], s.Places[id] = api.Entry{Kind: 2, Size: 2}, places
			checkEncode(t, s, small, 1, nil, api.ErrForm)
		}
		for _, z := range []complex128{place(6, 0), place(0, 2), place(5, 2), place(23, 15), place(7, 1)} {
			s := spread(small, 12)
			s.Entries[id], s.Places[id] = api.Entry{Kind: 1, Size: 2}, []complex128{-1, z}
			checkEncode(t, s, small, 1, nil, api.ErrRange)
		}
	}
	checkEncode(t, spread(small, 5), small, 1, nil, api.ErrSpace)
}

// P13.1: Decode

func TestDecodeOfTooFewOrTooMany(t *testing.T) {
	for _, s := range []api.State{{}, sized(18), sized(19), spread(great, 256)} {
		pages := encodeOf(s, great, 300)
		checkDecode(t, pages, s, great, 300)
		for n := range len(pages) {
			checkCorrupt(t, pages[:n])
			checkCorrupt(t, pages[n+1:])
			checkCorrupt(t, slices.Delete(slices.Clone(pages), n, n+1))
			for _, extra := range append(copyOf(pages), nil, make([]byte, 64), leafOf(300, len(pages)-1, nil), leafOf(300, len(pages)-1, []byte{0, 0})) {
				checkCorrupt(t, slices.Insert(slices.Clone(pages), n, extra))
				checkCorrupt(t, append(slices.Clone(pages), extra))
			}
		}
	}
	checkCorrupt(t, nil)
	checkCorrupt(t, [][]byte{})
	checkCorrupt(t, [][]byte{nil})
	checkCorrupt(t, make([][]byte, 5000))
	checkCorrupt(t, slices.Repeat(encodeOf(api.State{}, great, 300), 3000))
}

func TestDecodeOfSwapped(t *testing.T) {
	pages := encodeOf(spread(great, 256), great, 300)
	for i := range pages {
		for j := range i {
			swapped := slices.Clone(pages)
			swapped[i], swapped[j] = swapped[j], swapped[i]
			checkCorrupt(t, swapped)
			swapped[i] = swapped[j]
			checkCorrupt(t, swapped)
		}
	}
}

// Pages of two checkpoints, or of two states with the same seq, do not fit together.
func TestDecodeOfMixed(t *testing.T) {
	s := spread(great, 256)
	other := spread(great, 256)
	for id := range 8 {
		slices.Reverse(other.Places[id])
	}
	pages := encodeOf(s, great, 300)
	for _, others := range [][][]byte{
		encodeOf(s, great, 301), encodeOf(s, great, 299), encodeOf(s, great, 300+256), encodeOf(s, great, 300+1<<24),
		encodeOf(other, great, 300), encodeOf(other, great, 302),
	} {
		for i := range pages {
			mixed := slices.Clone(pages)
			mixed[i] = others[i]
			checkCorrupt(t, mixed)
			copy(mixed[:i], others)
			// Then only the pages behind i are those of the first.
			if i < len(pages)-1 {
				checkCorrupt(t, mixed)
			}
		}
	}
}

func TestDecodeOfDamaged(t *testing.T) {
	pages := encodeOf(spread(great, 40), great, 300)
	for i := range pages {
		for bit := range 8 * sectorSize {
			damaged := copyOf(pages)
			damaged[i][bit/8] ^= 1 << (bit % 8)
			checkCorrupt(t, damaged)
		}
		for _, page := range [][]byte{nil, {}, pages[i][:60], pages[i][:63], append(slices.Clone(pages[i]), 0), slices.Repeat(pages[i], 2), make([]byte, 64)} {
			damaged := slices.Clone(pages)
			damaged[i] = page
			checkCorrupt(t, damaged)
		}
	}
}

// Each byte of each page in turn has each other value, under a checksum that is right.
func TestDecodeOfResealed(t *testing.T) {
	s := volumes([]complex128{place(1, 3), place(3, 1), place(2, 2), -1}, nil, first(some, 18), []complex128{-1})
	pages := encodeOf(s, some, 0x01020304)
	if len(pages) != 3 {
		t.Fatal(len(pages))
	}
	decoded := 0
	for i := range pages {
		for at := range bodySize {
			for x := range 256 {
				changed := slices.Clone(pages)
				body := slices.Clone(pages[i][:bodySize])
				body[at] = byte(x)
				changed[i] = sealed(body...)
				if checkDecoded(t, changed) {
					decoded++
				}
			}
		}
	}
	// All that differs otherwise is the number of segments, and of blocks in each: not each place exists in each geometry.
	if decoded < bodySize*3+15 {
		t.Errorf("only %d were decoded", decoded)
	}
}

// Each byte of a text in turn has each other value, under checksums that are right.
func TestDecodeOfOtherTexts(t *testing.T) {
	s := volumes([]complex128{place(1, 3), place(3, 1), place(2, 2), -1}, nil, first(some, 18), []complex128{-1})
	text := textOf(s, some)
	decoded := 0
	for at := range text {
		for x := range 256 {
			other := slices.Clone(text)
			other[at] = byte(x)
			if checkDecoded(t, pagesOf(some, 5, inParts(other)...)) {
				decoded++
			}
		}
	}
	if decoded < len(text)*2 {
		t.Errorf("only %d were decoded", decoded)
	}
}

// A text that is cut off, or followed by more bytes, is none, whatever the checksums.
func TestDecodeOfTextsOfOtherLengths(t *testing.T) {
	for _, s := range []api.State{{}, sized(18), sized(255), spread(great, 256), volumes(nil, nil, unplaced(20))} {
		text := textOf(s, great)
		for n := range text {
			checkCorrupt(t, pagesOf(great, 5, inParts(text[:n])...))
		}
		for _, more := range []string{"\x00", "\x00\x00", "\x01\x01\x00\x00", "\x00\x00\x00\x00", string(make([]byte, 16)), string(make([]byte, 600))} {
			checkCorrupt(t, pagesOf(great, 5, inParts(append(slices.Clone(text), more...))...))
		}
	}
	// So many leaves have texts that are too long.
	for count := range 256 {
		checkCorrupt(t, pagesOf(great, 5, slices.Repeat([][]byte{make([]byte, partSize)}, count)...))
	}
}

// The leaves have parts of 52 bytes, and no others.
func TestDecodeOfOtherParts(t *testing.T) {
	// Of this text 2 bytes are in the last leaf.
	s := sized(45)
	text := textOf(s, great)
	checkDecode(t, pagesOf(great, 5, text[:52], text[52:104], text[104:]), s, great, 5)
	for i := range 54 {
		if i != 52 {
			checkCorrupt(t, pagesOf(great, 5, text[:i], text[i:i+52], text[i+52:]))
			checkCorrupt(t, pagesOf(great, 5, text[:i], text[i:i+52], text[i+52:i+52], text[i+52:]))
		}
	}
	checkCorrupt(t, pagesOf(great, 5, text[:52], text[52:104], text[104:], nil))
	checkCorrupt(t, pagesOf(great, 5, nil, text[:52], text[52:104], text[104:]))
	checkCorrupt(t, pagesOf(great, 5, text[:52], text[52:104], text[104:105], text[105:]))
}

// Each number for a place that there may be in two bytes.
func TestDecodeOfEveryNumber(t *testing.T) {
	for _, p := range []api.Plat{small, some, great, {Segments: 24, Blocks: 2}, {Segments: 6, Blocks: 16}} {
		for n := range 1 << 16 {
			text := append([]byte{1, 1, byte(n >> 8), byte(n)}, make([]byte, 14)...)
			want := volumes(unplaced(1))
			if n > 0 {
				want.Places[0][0] = place((n-1)/p.Blocks, (n-1)%p.Blocks)
			}
			if n <= p.Segments*p.Blocks {
				checkDecode(t, pagesOf(p, 5, text), want, p, 5)
			} else if n < 1000 || n%256 < 3 || n%97 == 0 {
				checkCorrupt(t, pagesOf(p, 5, text))
			}
		}
	}
}

// Each entry that there may be in two bytes, with as many blocks as it says, as far as they fit.
func TestDecodeOfEveryEntry(t *testing.T) {
	for kind := range 256 {
		for size := range 256 {
			text := append([]byte{byte(kind), byte(size)}, make([]byte, 2*size+14)...)
			isEmpty, isEntry := kind == 0 && size == 0, (kind == 1 || kind == 2) && size >= 1 && size <= 32
			if checkDecoded(t, pagesOf(some, 5, inParts(text)...)) != (isEmpty || isEntry) {
				t.Fatalf("kind %d, size %d", kind, size)
			}
		}
	}
}

func TestDecodeRefusesHeaders(t *testing.T) {
	text := make([]byte, 16)
	sum := sumOf(text)
	for _, seq := range append([]int{5}, notSeqs...) {
		page := leafOf(seq, 0, text)
		checkDecoded(t, [][]byte{header(seq, some, 1, 16, sum), page})
		for n := range 256 {
			checkDecoded(t, [][]byte{header(seq, api.Plat{Segments: n, Blocks: 4}, 1, 16, sum), page})
			checkDecoded(t, [][]byte{header(seq, api.Plat{Segments: 9, Blocks: n}, 1, 16, sum), page})
			checkDecoded(t, [][]byte{header(seq, some, n, 16, sum), page})
			checkDecoded(t, [][]byte{header(seq, some, 1, n, sum), page})
			checkDecoded(t, [][]byte{header(seq, some, 1, 16+n<<8, sum), page})
		}
		for bit := range 32 {
			checkCorrupt(t, [][]byte{header(seq, some, 1, 16, sum^1<<bit), page})
		}
	}
	checkCorrupt(t, [][]byte{header(5, some, 0, 0, 0)})
	checkCorrupt(t, [][]byte{header(5, some, 0, 16, sum)})
	checkDecode(t, [][]byte{header(5, some, 1, 16, sum), leafOf(5, 0, text)}, api.State{}, some, 5)
}

// Leaves whose fields state more than a page has.
func TestDecodeOfLeavesThatOverstate(t *testing.T) {
	for size := range 256 {
		for _, n := range []int{0, 1, 16, 52, 54, 255} {
			page := sealed(append([]byte{0, 0, 0, 5, 0, byte(size)}, make([]byte, 54)...)...)
			pages := [][]byte{header(5, some, 1, n, sumOf(make([]byte, n))), page}
			if checkDecoded(t, pages) != (size == 16 && n == 16) {
				t.Fatalf("size %d, stated %d", size, n)
			}
		}
	}
}

// P13.2: Count

func TestCountOfEncoded(t *testing.T) {
	for blocks := range 8*32 + 1 {
		for _, seq := range seqs {
			pages, _ := leaf.Encode(sized(blocks), great, seq)
			checkCount(t, pages[0], len(pages)-1, seq, api.OK)
			for _, page := range pages[1:] {
				checkCount(t, page, 0, 0, api.ErrCorrupt)
			}
		}
	}
}

// Only the seq and the number of leaves matter: 0 leaves and geometries that are none can be counted.
func TestCountOfAnyHeader(t *testing.T) {
	for count := range 256 {
		want, wantSeq, wantE := count, 300, api.OK
		if count >= 12 {
			want, wantSeq, wantE = 0, 0, api.ErrCorrupt
		}
		checkCount(t, header(300, some, count, 528, 7), want, wantSeq, wantE)
		checkCount(t, header(300, api.Plat{}, count, 0, 0), want, wantSeq, wantE)
		checkCount(t, header(300, api.Plat{Segments: 255, Blocks: 255}, count, 65535, math.MaxUint32), want, wantSeq, wantE)
		for at := 17; at < bodySize; at++ {
			body := header(300, some, count, 528, 7)[:bodySize]
			body[at] = byte(at)
			checkCount(t, sealed(body...), want, wantSeq, wantE)
		}
	}
	for _, seq := range seqs {
		checkCount(t, header(seq, some, 0, 0, 0), 0, seq, api.OK)
		checkCount(t, header(seq, some, 11, 0, 0), 11, seq, api.OK)
		checkCount(t, header(seq, some, 12, 0, 0), 0, 0, api.ErrCorrupt)
	}
}

func TestCountRefusesSeqs(t *testing.T) {
	for _, seq := range []int{0, greatestSeq + 1, greatestSeq + 256, 2*greatestSeq - 1, 2 * greatestSeq, 2*greatestSeq + 1, 3 * greatestSeq, math.MaxUint32} {
		for count := range 13 {
			checkCount(t, header(seq, some, count, 16, 0), 0, 0, api.ErrCorrupt)
		}
	}
}

func TestCountRefusesOtherBeginnings(t *testing.T) {
	h := header(300, some, 1, 16, 0)
	for at := range 4 {
		for x := range 256 {
			body := slices.Clone(h[:bodySize])
			body[at] = byte(x)
			if x == int(h[at]) {
				checkCount(t, sealed(body...), 1, 300, api.OK)
			} else {
				checkCount(t, sealed(body...), 0, 0, api.ErrCorrupt)
			}
		}
	}
	checkCount(t, sealed(append([]byte{0}, h[:59]...)...), 0, 0, api.ErrCorrupt)
	checkCount(t, sealed(), 0, 0, api.ErrCorrupt)
}

func TestCountRefusesWhatIsNotSealed(t *testing.T) {
	h := header(300, some, 1, 16, 0)
	for bit := range 8 * sectorSize {
		damaged := slices.Clone(h)
		damaged[bit/8] ^= 1 << (bit % 8)
		checkCount(t, damaged, 0, 0, api.ErrCorrupt)
	}
	for n := range sectorSize {
		checkCount(t, h[:n], 0, 0, api.ErrCorrupt)
		checkCount(t, h[n+1:], 0, 0, api.ErrCorrupt)
	}
	for _, b := range [][]byte{nil, {}, append(slices.Clone(h), 0), slices.Repeat(h, 2), make([]byte, 64), make([]byte, 5000), bytes.Repeat([]byte{255}, 64)} {
		checkCount(t, b, 0, 0, api.ErrCorrupt)
	}
}

// Bytes of any kind are refused without a panic.
func TestNoise(t *testing.T) {
	roll := dice(2)
	for range 20000 {
		var pages [][]byte
		for range roll(14) {
			var page []byte
			for range []int{0, 6, 17, 60, 60, 60}[roll(6)] {
				page = append(page, byte(roll(256)))
			}
			if roll(5) > 0 {
				page = sealed(page...)
			}
			pages = append(pages, page)
		}
		if len(pages) > 0 && roll(4) > 0 {
			pages[0] = header(1+roll(9), great, len(pages)-1, roll(600), uint32(roll(1000)))
		}
		checkDecoded(t, pages)
		if len(pages) > 0 {
			leaf.Count(pages[0])
		}
	}
}

// Rules R4 and R5

// The spare capacity of the arguments stays as it is as well.
func TestArgumentsUnchanged(t *testing.T) {
	s := spread(great, 100)
	for id, places := range s.Places {
		s.Places[id] = append(make([]complex128, 0, 64), places...)
	}
	before := spread(great, 100)
	pages := encodeOf(before, great, 300)
	list := append(make([][]byte, 0, 32), pages...)
	for i, page := range pages {
		list[i] = append(make([]byte, 0, 128), page...)
	}
	for range 2 {
		leaf.Encode(s, great, 300)
		leaf.Encode(s, small, 300)
		leaf.Encode(s, great, 0)
		leaf.Decode(list)
		leaf.Decode(list[:3])
		leaf.Decode(list[1:])
		leaf.Count(list[0])
		leaf.Count(list[1])
		list[1][20] ^= 1
		leaf.Decode(list)
		list[1][20] ^= 1
	}
	if !sameState(s, before) || !samePages(list, pages) {
		t.Error("the arguments have changed")
	}
	for id, places := range s.Places {
		for _, z := range places[len(places):cap(places)] {
			if z != 0 {
				t.Errorf("the spare capacity of the places of %d has changed", id)
			}
		}
	}
	for i, page := range list {
		if !isZero(page[len(page):cap(page)]) {
			t.Errorf("the spare capacity of page %d has changed", i)
		}
	}
	for _, page := range list[len(list):cap(list)] {
		if page != nil {
			t.Error("the spare capacity of the pages has changed")
		}
	}
}

// Whoever writes into a result, or into its spare capacity, changes nothing else.
func TestResultsShareNothing(t *testing.T) {
	s := spread(great, 100)
	want := encodeOf(s, great, 300)
	pages, _ := leaf.Encode(s, great, 300)
	for i, page := range pages {
		spoil(page)
		if !samePages(pages[i+1:], want[i+1:]) {
			t.Fatalf("page %d shares memory with those behind it", i)
		}
	}
	if again, e := leaf.Encode(s, great, 300); e != api.OK || !samePages(again, want) {
		t.Error("results of Encode share memory")
	}
	if !sameState(s, spread(great, 100)) {
		t.Error("a result of Encode shares memory with its argument")
	}
	pages = copyOf(want)
	got, _, _, _ := leaf.Decode(pages)
	for _, page := range pages {
		spoil(page)
	}
	if !sameState(got, s) {
		t.Error("a result of Decode shares memory with its argument")
	}
	for id, places := range got.Places {
		for i := range places[:cap(places)] {
			places[:cap(places)][i] = 0.5
		}
		if slices.ContainsFunc(slices.Concat(got.Places[id+1:]...), func(z complex128) bool { return z == 0.5 }) {
			t.Fatalf("the places of %d share memory with others", id)
		}
	}
	checkDecode(t, want, s, great, 300)
}

// spoil overwrites bytes and their spare capacity.
func spoil(b []byte) {
	b = b[:cap(b)]
	for i := range b {
		b[i] = 0xA5
	}
}

// The same call has the same results each time, whatever is called between.
func TestAlwaysSame(t *testing.T) {
	s := spread(great, 200)
	for range 100 {
		checkBoth(t, s, great, 300)
		checkBoth(t, api.State{}, small, greatestSeq)
		checkCorrupt(t, encodeOf(s, great, 300)[1:])
		checkEncode(t, s, small, 300, nil, api.ErrRange)
		checkCount(t, encodeOf(s, great, 300)[0], 8, 300, api.OK)
	}
}
