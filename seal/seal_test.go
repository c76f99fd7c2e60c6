package seal_test

import (
	"bytes"
	"encoding/binary"
	"hash/crc32"
	"math"
	"math/bits"
	"slices"
	"testing"

	"stopcock/api"
	"stopcock/seal"
)

// The sizes are written as numbers: a limit that the program misreads shows.
const (
	bodySize   = 60
	sectorSize = 64
)

// reference is More by the library, whose checksum has the same polynomial but the least significant bit first.
func reference(sum uint32, b []byte) uint32 {
	mirrored := make([]byte, len(b))
	for i, x := range b {
		mirrored[i] = bits.Reverse8(x)
	}
	return bits.Reverse32(crc32.Update(bits.Reverse32(sum), crc32.IEEETable, mirrored))
}

// mixed returns n bytes that look random and differ with the seed.
func mixed(n int, seed uint32) []byte {
	b := make([]byte, n)
	for i := range b {
		seed = seed*1664525 + 1013904223
		b[i] = byte(seed >> 24)
	}
	return b
}

// withSpare returns b with spare capacity behind it, which is not zero.
func withSpare(b []byte) []byte {
	whole := append(slices.Clone(b), bytes.Repeat([]byte{0xA5}, 100)...)
	return whole[:len(b)]
}

// P3.1: Sum.

func TestSumExamples(t *testing.T) {
	for _, c := range []struct {
		text string
		want uint32
	}{
		{"123456789", 0xFC891918},
		{"", 0},
		{"\x00", 0xB1F7404B},
		{"\x00\x00\x00\x00", 0x38FB2284},
		{"\xFF\xFF\xFF\xFF", 0xFFFFFFFF},
		{"\xFF\xFF\xFF\xFF\x00\x00\x00\x00", 0xFFFFFFFF},
		{"a", 0x19939B6B},
		{"abc", 0x648CBB73},
	} {
		checkSum(t, []byte(c.text), c.want)
	}
	checkSum(t, nil, 0)
	checkSum(t, []byte{}, 0)
}

func TestSumOfEveryByte(t *testing.T) {
	for x := range 256 {
		for _, b := range [][]byte{
			{byte(x)},
			{byte(x), 0}, {0, byte(x)}, {byte(x), 0xFF}, {0xFF, byte(x)},
			{0xFF, 0xFF, 0xFF, 0xFF, byte(x)},
			{1, 2, 3, byte(x), 5, 6},
		} {
			checkSum(t, b, reference(0, b))
		}
	}
}

func TestSumOfEveryLength(t *testing.T) {
	for n := range 300 {
		for _, b := range [][]byte{mixed(n, 1), mixed(n, 77), make([]byte, n), bytes.Repeat([]byte{0xFF}, n), bytes.Repeat([]byte{0x80}, n)} {
			checkSum(t, b, reference(0, b))
		}
	}
}

func TestSumOfLongBytes(t *testing.T) {
	for _, n := range []int{4095, 4096, 4097, 65535, 65536, 65537, 1 << 20} {
		for _, b := range [][]byte{mixed(n, 5), make([]byte, n)} {
			if got, want := seal.Sum(b), reference(0, b); got != want {
				t.Errorf("Sum of %d bytes = %#x, want %#x", n, got, want)
			}
		}
	}
}

func TestSumCountsNoSpareCapacity(t *testing.T) {
	checkSum(t, withSpare([]byte("123456789")), 0xFC891918)
	checkSum(t, withSpare(nil), 0)
}

func checkSum(t *testing.T, b []byte, want uint32) {
	t.Helper()
	if got := seal.Sum(b); got != want {
		t.Errorf("Sum(%x) = %#x, want %#x", b, got, want)
	}
}

// P3.1: More.

func TestMoreOfEverySplit(t *testing.T) {
	for _, b := range [][]byte{[]byte("123456789"), mixed(64, 3), mixed(200, 4), make([]byte, 64), bytes.Repeat([]byte{0xFF}, 64)} {
		want := reference(0, b)
		for at := range len(b) + 1 {
			checkMore(t, seal.Sum(b[:at]), b[at:], want)
		}
	}
}

func TestMoreByteByByte(t *testing.T) {
	b := mixed(200, 8)
	sum := uint32(0)
	for i, x := range b {
		sum = seal.More(sum, []byte{x})
		if want := reference(0, b[:i+1]); sum != want {
			t.Fatalf("More up to byte %d = %#x, want %#x", i, sum, want)
		}
	}
}

func TestMoreOfThreePieces(t *testing.T) {
	b := mixed(40, 9)
	want := reference(0, b)
	for i := range len(b) + 1 {
		for j := i; j <= len(b); j++ {
			checkMore(t, seal.More(seal.Sum(b[:i]), b[i:j]), b[j:], want)
		}
	}
}

func TestMoreOfEveryKindOfSum(t *testing.T) {
	sums := []uint32{0, 1, 2, 3, 0x80000000, 0x7FFFFFFF, 0xFFFFFFFF, 0xFFFFFFFE, 0x04C11DB7, 0xFC891918, 0x01000000, 0x00FFFFFF, 0xFF000000}
	for i := range 32 {
		sums = append(sums, 1<<i, ^uint32(1<<i))
	}
	for _, sum := range sums {
		checkMore(t, sum, nil, sum)
		checkMore(t, sum, []byte{}, sum)
		for _, b := range [][]byte{{0}, {0xFF}, {0x80}, {1}, {0, 0, 0, 0}, []byte("123456789"), mixed(100, sum)} {
			checkMore(t, sum, b, reference(sum, b))
		}
	}
}

func TestMoreAfterNothingIsSum(t *testing.T) {
	checkMore(t, 0, []byte("123456789"), 0xFC891918)
	checkMore(t, 0, nil, 0)
	for n := range 100 {
		b := mixed(n, 12)
		checkMore(t, 0, b, seal.Sum(b))
	}
}

func TestMoreCountsNoSpareCapacity(t *testing.T) {
	checkMore(t, seal.Sum([]byte("1234")), withSpare([]byte("56789")), 0xFC891918)
	checkMore(t, 0xFC891918, withSpare(nil), 0xFC891918)
}

func checkMore(t *testing.T, sum uint32, b []byte, want uint32) {
	t.Helper()
	if got := seal.More(sum, b); got != want {
		t.Errorf("More(%#x, %x) = %#x, want %#x", sum, b, got, want)
	}
}

// P3.2: Close.

// sealed returns the sealed sector of at most 60 bytes, made without the program.
func sealed(b []byte) []byte {
	body := make([]byte, bodySize)
	copy(body, b)
	return binary.BigEndian.AppendUint32(body, reference(0, body))
}

func TestCloseExamples(t *testing.T) {
	// The last four bytes are the checksum of the whole padded body, most significant first.
	want := append([]byte("abc"), make([]byte, 57)...)
	want = append(want, 0x41, 0x23, 0x67, 0x22)
	checkClose(t, []byte("abc"), want)
	want = append(make([]byte, 60), 0x10, 0x91, 0x48, 0x20)
	checkClose(t, nil, want)
	checkClose(t, []byte{}, want)
	checkClose(t, []byte{0}, want)
	checkClose(t, make([]byte, 60), want)
}

func TestCloseOfEveryLength(t *testing.T) {
	for n := range 61 {
		for _, b := range [][]byte{mixed(n, 1), mixed(n, 2), make([]byte, n), bytes.Repeat([]byte{0xFF}, n)} {
			checkClose(t, b, sealed(b))
		}
	}
}

func TestClosePadsWithZeroBytesOnly(t *testing.T) {
	for n := range 61 {
		b := withSpare(mixed(n, 6))
		checkClose(t, b, sealed(b))
	}
}

func TestCloseRefusesLongBytes(t *testing.T) {
	for _, n := range []int{61, 62, 63, 64, 65, 120, 128, 256, 316, 4096, 65536, 65596} {
		for _, b := range [][]byte{make([]byte, n), mixed(n, 3), withSpare(mixed(n, 4))} {
			if got, e := seal.Close(b); len(got) != 0 || e != api.ErrLength {
				t.Errorf("Close of %d bytes = %x, %d, want nothing, ErrLength", n, got, e)
			}
		}
	}
	// A sealed sector is itself too long to be sealed.
	if got, e := seal.Close(sealed(nil)); len(got) != 0 || e != api.ErrLength {
		t.Errorf("Close of a sealed sector = %x, %d, want nothing, ErrLength", got, e)
	}
}

func checkClose(t *testing.T, b, want []byte) {
	t.Helper()
	if got, e := seal.Close(b); !bytes.Equal(got, want) || e != api.OK {
		t.Errorf("Close(%x) = %x, %d, want %x", b, got, e, want)
	}
}

// P3.2: Open.

func TestOpenReturnsAllSixtyBytes(t *testing.T) {
	for n := range 61 {
		for _, b := range [][]byte{mixed(n, 1), mixed(n, 2), make([]byte, n), bytes.Repeat([]byte{0xFF}, n)} {
			want := sealed(b)[:bodySize]
			checkOpen(t, sealed(b), want, api.OK)
			checkOpen(t, withSpare(sealed(b)), want, api.OK)
		}
	}
}

func TestOpenReversesClose(t *testing.T) {
	for n := range 61 {
		b := mixed(n, 11)
		sector, e := seal.Close(b)
		if e != api.OK {
			t.Fatalf("Close of %d bytes: %d", n, e)
		}
		checkOpen(t, sector, append(slices.Clone(b), make([]byte, bodySize-n)...), api.OK)
	}
}

func TestOpenOfASumAtItsEdges(t *testing.T) {
	// The four bytes that make the register what is wanted, after 56 bytes: each value of the sum has a body.
	for _, sum := range []uint32{0, 1, 0xFF, 0x100, 0x10000, 0x1000000, 0x80000000, 0x12345678, math.MaxInt32, math.MaxUint32, math.MaxUint32 - 1} {
		body := bodyWithSum(sum)
		if reference(0, body) != sum {
			t.Fatalf("the body made for the sum %#x has another one", sum)
		}
		checkClose(t, body, binary.BigEndian.AppendUint32(slices.Clone(body), sum))
		checkOpen(t, binary.BigEndian.AppendUint32(slices.Clone(body), sum), body, api.OK)
	}
}

// bodyWithSum returns 60 bytes that have the given checksum.
func bodyWithSum(sum uint32) []byte {
	body := mixed(56, 21)
	// The register runs backward over four zero bytes: what it has to be before them is what the last bytes are XORed to.
	register := ^sum
	for range 32 {
		if register&1 == 1 {
			register = (register^0x04C11DB7)>>1 | 1<<31
		} else {
			register >>= 1
		}
	}
	return binary.BigEndian.AppendUint32(body, register^^reference(0, body))
}

func TestOpenRefusesOtherLengths(t *testing.T) {
	long := append(sealed([]byte("abc")), sealed([]byte("def"))...)
	for n := range len(long) + 1 {
		if n != sectorSize {
			checkOpen(t, long[:n], nil, api.ErrLength)
			checkOpen(t, slices.Clone(long[:n]), nil, api.ErrLength)
			checkOpen(t, make([]byte, n), nil, api.ErrLength)
		}
	}
	checkOpen(t, nil, nil, api.ErrLength)
	checkOpen(t, append([]byte{0}, sealed(nil)...), nil, api.ErrLength)
	checkOpen(t, make([]byte, 64+256), nil, api.ErrLength)
	checkOpen(t, make([]byte, 64+65536), nil, api.ErrLength)
}

func TestOpenRefusesEveryChangedByte(t *testing.T) {
	for _, body := range [][]byte{nil, []byte("abc"), mixed(60, 14), bytes.Repeat([]byte{0xFF}, 60)} {
		sector := sealed(body)
		for i := range sector {
			right := sector[i]
			for x := 1; x < 256; x++ {
				sector[i] = right ^ byte(x)
				checkOpen(t, sector, nil, api.ErrForm)
			}
			sector[i] = right
		}
		checkOpen(t, sector, sector[:bodySize], api.OK)
	}
}

func TestOpenRefusesChangesOfSeveralBytes(t *testing.T) {
	right := sealed(mixed(60, 15))
	for i := range right {
		for j := range i {
			sector := slices.Clone(right)
			// A sum of bytes, or their XOR, would not show these.
			if sector[i] != sector[j] {
				sector[i], sector[j] = sector[j], sector[i]
				checkOpen(t, sector, nil, api.ErrForm)
			}
			sector = slices.Clone(right)
			sector[i], sector[j] = sector[i]^0x11, sector[j]^0x11
			checkOpen(t, sector, nil, api.ErrForm)
		}
	}
}

func TestOpenRefusesOtherSums(t *testing.T) {
	body := mixed(60, 16)
	sum := reference(0, body)
	for _, wrong := range []uint32{
		^sum, bits.Reverse32(sum), bits.ReverseBytes32(sum), ^bits.ReverseBytes32(sum),
		sum + 1, sum - 1, 0, math.MaxUint32, bits.RotateLeft32(sum, 8), bits.RotateLeft32(sum, 16), bits.RotateLeft32(sum, 24),
		crc32.ChecksumIEEE(body), reference(0, body[:56]), reference(0, body[:59]), reference(0, append(slices.Clone(body), 0)),
		reference(math.MaxUint32, body), ^reference(math.MaxUint32, body),
	} {
		checkOpen(t, binary.BigEndian.AppendUint32(slices.Clone(body), wrong), nil, api.ErrForm)
	}
	// A sum that stands before the bytes, and one byte too early.
	checkOpen(t, append(binary.BigEndian.AppendUint32(nil, sum), body...), nil, api.ErrForm)
	checkOpen(t, append(binary.BigEndian.AppendUint32(slices.Clone(body[:59]), reference(0, body[:59])), 0), nil, api.ErrForm)
}

func TestOpenRefusesUniformSectors(t *testing.T) {
	for x := range 256 {
		checkOpen(t, bytes.Repeat([]byte{byte(x)}, 64), nil, api.ErrForm)
	}
	checkOpen(t, mixed(64, 17), nil, api.ErrForm)
}

func checkOpen(t *testing.T, b, want []byte, wantE api.Errno) {
	t.Helper()
	if got, e := seal.Open(b); !bytes.Equal(got, want) || e != wantE {
		t.Errorf("Open(%x) = %x, %d, want %x, %d", b, got, e, want, wantE)
	}
}

// P1, R4 and R5 for all functions.

// arguments have spare capacity: too short to be sectors, sealed, broken, and too long.
func arguments() [][]byte {
	broken := sealed([]byte("abc"))
	broken[7]++
	return [][]byte{
		withSpare(nil),
		withSpare([]byte("abc")),
		withSpare(mixed(59, 1)),
		withSpare(mixed(60, 2)),
		withSpare(mixed(61, 3)),
		withSpare(sealed([]byte("abc"))),
		withSpare(sealed(mixed(60, 4))),
		withSpare(broken),
		withSpare(mixed(65, 5)),
	}
}

func TestArgumentsAreLeftAlone(t *testing.T) {
	for _, given := range arguments() {
		whole := given[:cap(given)]
		before := slices.Clone(whole)
		seal.Sum(given)
		seal.More(0x12345678, given)
		seal.Close(given)
		seal.Open(given)
		if !bytes.Equal(whole, before) {
			t.Errorf("%x became %x", before, whole)
		}
	}
}

func TestCloseReturnsNewMemory(t *testing.T) { checkNewMemory(t, "Close", seal.Close) }

func TestOpenReturnsNewMemory(t *testing.T) { checkNewMemory(t, "Open", seal.Open) }

func checkNewMemory(t *testing.T, name string, call func([]byte) ([]byte, api.Errno)) {
	for _, given := range arguments() {
		whole := given[:cap(given)]
		before := slices.Clone(whole)
		first, firstE := call(given)
		want := slices.Clone(first)
		second, _ := call(given)
		overwrite(second)
		if !bytes.Equal(first, want) {
			t.Errorf("two results of %s(%x) share memory", name, given)
		}
		overwrite(first)
		if !bytes.Equal(whole, before) {
			t.Errorf("the result of %s(%x) shares memory with it", name, before[:len(given)])
		}
		if third, e := call(given); !bytes.Equal(third, want) || e != firstE {
			t.Errorf("%s(%x) returned %x, %d, and then %x, %d", name, given, want, firstE, third, e)
		}
	}
}

func overwrite(b []byte) {
	b = b[:cap(b)]
	for i := range b {
		b[i] = 0x5A
	}
}

func TestSumsDoNotDependOnEarlierCalls(t *testing.T) {
	for range 3 {
		checkSum(t, []byte("123456789"), 0xFC891918)
		checkMore(t, 0xFFFFFFFF, []byte{1, 2, 3}, reference(0xFFFFFFFF, []byte{1, 2, 3}))
		seal.Close([]byte("abc"))
		seal.Open(nil)
	}
}
