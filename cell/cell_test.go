package cell_test

import (
	"bytes"
	"encoding/binary"
	"math"
	"math/big"
	"slices"
	"testing"

	"stopcock/api"
	"stopcock/cell"
)

// greatest has the greatest number of each size, written as numbers: a limit that the program misreads shows.
var greatest = [...]int{1: 255, 2: 65535, 3: 16777215, 4: 4294967295}

// notSizes are not from 1 to 4. The extreme ones have low bits that look like a size if a conversion cuts them off.
var notSizes = []int{
	0, -1, -2, -3, -4, -5, -8, -255, -256, 5, 6, 7, 8, 9, 16, 32, 64, 255, 256, 257, 258, 260, 1 << 16, 1<<16 + 1,
	math.MaxInt32, math.MinInt32, math.MinInt32 + 1, 1 << 32, 1<<32 + 1, 1<<32 + 4, 1<<61 + 1, 1<<62 + 1,
	math.MaxInt, math.MaxInt - 1, math.MinInt, math.MinInt + 1, math.MinInt + 4,
}

// prefixes are what a number may be put behind.
var prefixes = [][]byte{nil, {}, {0}, {9}, {0xFF}, {1, 2, 3}, {0, 0, 0, 0}, []byte("stopcock"), bytes.Repeat([]byte{0xA7}, 300)}

// fitting returns numbers that fit in size bytes, the edges of all sizes up to it among them.
func fitting(size int) []int {
	list := []int{0, 1, 2, 127, 128, 254, 255}
	for s := 1; s <= size; s++ {
		list = append(list, greatest[s], greatest[s]-1, greatest[s]/2, greatest[s]/2+1, greatest[s]/3, greatest[s]/256+1)
	}
	for bit := range 8 * size {
		list = append(list, 1<<bit, greatest[size]^1<<bit)
	}
	for i := range size {
		// Each byte is told by its place.
		list = append(list, 0x01020304>>(8*(4-size)), 0xAB<<(8*i), 0x7F<<(8*i), greatest[size]^0xFF<<(8*i))
	}
	return list
}

// notFitting returns numbers that are negative or do not fit in size bytes, even if their low bytes look harmless.
func notFitting(size int) []int {
	list := []int{
		-1, -2, -127, -128, -129, -255, -256, -257, -65535, -65536, math.MinInt32, -1 << 32, -1<<32 + 1, -1 << 40,
		1 << 32, 1<<32 + 1, 1<<33 - 1, 1 << 40, 1<<48 + 7, 1 << 56, 1 << 62, 1<<62 + 5,
		math.MaxInt, math.MaxInt - 1, math.MinInt, math.MinInt + 1, math.MinInt + 200, math.MinInt / 2,
		-greatest[size], -greatest[size] - 1, -greatest[size] - 2,
	}
	for bit := 8 * size; bit < 63; bit++ {
		list = append(list, 1<<bit, 1<<bit+1, 1<<bit+greatest[size], -1<<bit)
	}
	return list
}

// reference returns the bytes of n, by the library.
func reference(size, n int) []byte {
	return big.NewInt(int64(n)).FillBytes(make([]byte, size))
}

// value returns the number that at most 4 bytes are, by the library.
func value(b []byte) int {
	var four [4]byte
	copy(four[4-len(b):], b)
	return int(binary.BigEndian.Uint32(four[:]))
}

// mixed returns n bytes that look random and differ with the seed.
func mixed(n int, seed uint32) []byte {
	b := make([]byte, n)
	for i := range b {
		seed = seed*1664525 + 1013904223
		b[i] = byte(seed >> 24)
	}
	return b
}

// withSpare returns list with spare capacity behind it, which is not zero.
func withSpare[T byte | int](list []T) []T {
	whole := slices.Clone(list)
	for range 100 {
		whole = append(whole, 0xA5)
	}
	return whole[:len(list)]
}

// P4.1: Put.

func TestPutExamples(t *testing.T) {
	for _, c := range []struct {
		before  string
		size, n int
		want    string
	}{
		{"\x09", 3, 258, "\x09\x00\x01\x02"},
		{"", 1, 0, "\x00"}, {"", 2, 0, "\x00\x00"}, {"", 3, 0, "\x00\x00\x00"}, {"", 4, 0, "\x00\x00\x00\x00"},
		{"", 1, 255, "\xFF"}, {"", 2, 255, "\x00\xFF"}, {"", 2, 256, "\x01\x00"}, {"", 2, 65535, "\xFF\xFF"},
		{"", 3, 65536, "\x01\x00\x00"}, {"", 3, 16777215, "\xFF\xFF\xFF"}, {"", 4, 16777216, "\x01\x00\x00\x00"},
		{"", 4, 0x01020304, "\x01\x02\x03\x04"}, {"", 4, 4294967295, "\xFF\xFF\xFF\xFF"}, {"", 4, 2147483648, "\x80\x00\x00\x00"},
		{"abc", 1, 'd', "abcd"}, {"\x00\x00", 2, 1, "\x00\x00\x00\x01"}, {"\xFF", 1, 255, "\xFF\xFF"},
	} {
		checkPut(t, []byte(c.before), c.size, c.n, []byte(c.want), api.OK)
	}
}

func TestPutOfEverySize(t *testing.T) {
	for size := 1; size <= 4; size++ {
		for _, n := range fitting(size) {
			for _, before := range prefixes {
				checkPut(t, before, size, n, slices.Concat(before, reference(size, n)), api.OK)
			}
		}
	}
}

func TestPutOfEverySmallNumber(t *testing.T) {
	for n := range 65536 {
		if n < 256 {
			checkPut(t, nil, 1, n, []byte{byte(n)}, api.OK)
		}
		checkPut(t, nil, 2, n, binary.BigEndian.AppendUint16(nil, uint16(n)), api.OK)
		checkPut(t, nil, 4, n, binary.BigEndian.AppendUint32(nil, uint32(n)), api.OK)
	}
}

func TestPutOverwritesNoSpareCapacity(t *testing.T) {
	before := withSpare([]byte("abc"))
	checkPut(t, before, 2, 258, []byte("abc\x01\x02"), api.OK)
	checkPut(t, withSpare[byte](nil), 2, 258, []byte{1, 2}, api.OK)
	if whole := before[:cap(before)]; whole[3] != 0xA5 || whole[4] != 0xA5 {
		t.Errorf("Put wrote into the spare capacity: %x", whole[:10])
	}
}

func TestPutRefusesNumbersThatDoNotFit(t *testing.T) {
	for size := 1; size <= 4; size++ {
		for _, n := range notFitting(size) {
			for _, before := range prefixes {
				checkPut(t, before, size, n, nil, api.ErrRange)
			}
		}
	}
}

func TestPutRefusesOtherSizes(t *testing.T) {
	for _, size := range notSizes {
		for _, before := range prefixes {
			for _, n := range []int{0, 1, 255, 256, 4294967295} {
				checkPut(t, before, size, n, nil, api.ErrArg)
			}
			// The size is told before the number, also if that is wrong with every size.
			for _, n := range []int{-1, 1 << 32, math.MaxInt, math.MinInt} {
				checkPut(t, before, size, n, nil, api.ErrArg)
			}
		}
	}
}

func checkPut(t *testing.T, b []byte, size, n int, want []byte, wantE api.Errno) {
	t.Helper()
	if got, e := cell.Put(b, size, n); !bytes.Equal(got, want) || e != wantE {
		t.Errorf("Put(%x, %d, %d) = %x, %d, want %x, %d", b, size, n, got, e, want, wantE)
	}
}

// P4.1: Get.

func TestGetExamples(t *testing.T) {
	for _, c := range []struct {
		b              string
		at, size, want int
	}{
		{"\x09\x00\x01\x02", 0, 4, 9<<24 + 258}, {"\x09\x00\x01\x02", 0, 3, 9<<16 + 1}, {"\x09\x00\x01\x02", 1, 3, 258},
		{"\x09\x00\x01\x02", 2, 2, 258}, {"\x09\x00\x01\x02", 3, 1, 2}, {"\x09\x00\x01\x02", 0, 1, 9},
		{"\x00", 0, 1, 0}, {"\xFF", 0, 1, 255}, {"\xFF\xFF", 0, 2, 65535}, {"\xFF\xFF\xFF", 0, 3, 16777215}, {"\xFF\xFF\xFF\xFF", 0, 4, 4294967295},
		{"\x80\x00\x00\x00", 0, 4, 2147483648}, {"\x7F\xFF\xFF\xFF", 0, 4, 2147483647}, {"\x01\x00", 0, 2, 256}, {"\x00\x01", 0, 2, 1},
	} {
		checkGet(t, []byte(c.b), c.at, c.size, c.want, api.OK)
	}
}

func TestGetOfEveryPlace(t *testing.T) {
	for length := range 20 {
		for _, b := range [][]byte{mixed(length, 1), mixed(length, 2), make([]byte, length), bytes.Repeat([]byte{0xFF}, length), withSpare(mixed(length, 3))} {
			for size := 1; size <= 4; size++ {
				for at := -8; at < length+8; at++ {
					if at >= 0 && at+size <= length {
						checkGet(t, b, at, size, value(b[at:at+size]), api.OK)
					} else {
						checkGet(t, b, at, size, 0, api.ErrShort)
					}
				}
			}
		}
	}
}

func TestGetOfLongBytes(t *testing.T) {
	b := mixed(70000, 4)
	for _, at := range []int{255, 256, 257, 4095, 4096, 65534, 65535, 65536, 65537, 69996} {
		for size := 1; size <= 4; size++ {
			checkGet(t, b, at, size, value(b[at:at+size]), api.OK)
		}
	}
	checkGet(t, b, 69999, 1, value(b[69999:]), api.OK)
	checkGet(t, b, 69999, 2, 0, api.ErrShort)
	checkGet(t, b, 69997, 4, 0, api.ErrShort)
}

func TestGetReversesPut(t *testing.T) {
	for size := 1; size <= 4; size++ {
		for _, n := range fitting(size) {
			for _, before := range prefixes {
				b, e := cell.Put(before, size, n)
				if e != api.OK {
					t.Fatalf("Put(%x, %d, %d): %d", before, size, n, e)
				}
				checkGet(t, b, len(before), size, n, api.OK)
				checkGet(t, append(b, 1, 2, 3), len(before), size, n, api.OK)
			}
		}
	}
}

func TestGetRefusesFarPlaces(t *testing.T) {
	for _, at := range []int{
		-1, -2, -3, -4, -5, -64, math.MinInt, math.MinInt + 1, math.MinInt + 4, math.MinInt32, -1 << 32, -1<<32 + 1,
		math.MaxInt, math.MaxInt - 1, math.MaxInt - 2, math.MaxInt - 3, math.MaxInt - 4, math.MaxInt32, 1 << 32, 1<<32 + 1, 1 << 62, 256, 65536, 1 << 31,
	} {
		for size := 1; size <= 4; size++ {
			for _, b := range [][]byte{nil, {}, {1}, {1, 2, 3, 4}, mixed(64, 5), withSpare(mixed(8, 6))} {
				checkGet(t, b, at, size, 0, api.ErrShort)
			}
		}
	}
}

func TestGetRefusesOtherSizes(t *testing.T) {
	for _, size := range notSizes {
		for _, b := range [][]byte{nil, {}, {1}, {1, 2, 3, 4}, mixed(300, 5)} {
			for _, at := range []int{0, 1, 3} {
				checkGet(t, b, at, size, 0, api.ErrArg)
			}
			// The size is told before the place.
			for _, at := range []int{-1, 300, math.MaxInt, math.MinInt} {
				checkGet(t, b, at, size, 0, api.ErrArg)
			}
		}
	}
}

func checkGet(t *testing.T, b []byte, at, size, want int, wantE api.Errno) {
	t.Helper()
	if got, e := cell.Get(b, at, size); got != want || e != wantE {
		t.Errorf("Get(%x, %d, %d) = %d, %d, want %d, %d", b, at, size, got, e, want, wantE)
	}
}

// P4.2: Row.

func TestRowExamples(t *testing.T) {
	checkRow(t, 2, []int{1, 65535, 0}, []byte{0, 1, 255, 255, 0, 0}, api.OK)
	checkRow(t, 1, []int{3, 2, 1, 255, 0}, []byte{3, 2, 1, 255, 0}, api.OK)
	checkRow(t, 3, []int{258, 16777215}, []byte{0, 1, 2, 255, 255, 255}, api.OK)
	checkRow(t, 4, []int{0x01020304, 4294967295}, []byte{1, 2, 3, 4, 255, 255, 255, 255}, api.OK)
	if got, e := cell.Row(2, 1, 2); !bytes.Equal(got, []byte{0, 1, 0, 2}) || e != api.OK {
		t.Errorf("Row(2, 1, 2) = %x, %d", got, e)
	}
}

func TestRowOfNoNumbers(t *testing.T) {
	for size := 1; size <= 4; size++ {
		checkRow(t, size, nil, nil, api.OK)
		checkRow(t, size, []int{}, nil, api.OK)
		if got, e := cell.Row(size); len(got) != 0 || e != api.OK {
			t.Errorf("Row(%d) = %x, %d", size, got, e)
		}
	}
}

func TestRowOfManyNumbers(t *testing.T) {
	for size := 1; size <= 4; size++ {
		list := slices.Repeat(fitting(size), 50)
		var want []byte
		for i, n := range list {
			want = append(want, reference(size, n)...)
			if i < 100 || i == len(list)-1 {
				checkRow(t, size, list[:i+1], want, api.OK)
			}
		}
	}
}

func TestRowRefusesNumbersThatDoNotFit(t *testing.T) {
	for size := 1; size <= 4; size++ {
		for _, n := range notFitting(size) {
			for _, list := range [][]int{{n}, {n, 1}, {1, n}, {0, n, 255}, {0, 1, 2, 3, 4, n}, {n, n}} {
				checkRow(t, size, list, nil, api.ErrRange)
			}
		}
	}
}

func TestRowRefusesOtherSizes(t *testing.T) {
	for _, size := range notSizes {
		// The size is told before the numbers, and also if there are none.
		for _, list := range [][]int{nil, {}, {0}, {1, 2, 3}, {-1}, {1, math.MaxInt}, {math.MinInt}} {
			checkRow(t, size, list, nil, api.ErrArg)
		}
	}
}

func checkRow(t *testing.T, size int, list []int, want []byte, wantE api.Errno) {
	t.Helper()
	if got, e := cell.Row(size, list...); !bytes.Equal(got, want) || e != wantE {
		t.Errorf("Row(%d, %d) = %x, %d, want %x, %d", size, list, got, e, want, wantE)
	}
}

// P4.2: Unrow.

func TestUnrowExamples(t *testing.T) {
	checkUnrow(t, []byte{0, 1, 255, 255, 0, 0}, 2, []int{1, 65535, 0}, api.OK)
	checkUnrow(t, []byte{0, 1, 255, 255, 0, 0}, 1, []int{0, 1, 255, 255, 0, 0}, api.OK)
	checkUnrow(t, []byte{0, 1, 255, 255, 0, 0}, 3, []int{511, 16711680}, api.OK)
	checkUnrow(t, []byte{0, 1, 255, 255, 0, 0}, 4, nil, api.ErrLength)
	checkUnrow(t, []byte{255, 255, 255, 255, 128, 0, 0, 0}, 4, []int{4294967295, 2147483648}, api.OK)
}

func TestUnrowOfEveryLength(t *testing.T) {
	for length := range 100 {
		for _, b := range [][]byte{mixed(length, 1), mixed(length, 2), make([]byte, length), bytes.Repeat([]byte{0xFF}, length), withSpare(mixed(length, 3))} {
			for size := 1; size <= 4; size++ {
				if length%size != 0 {
					checkUnrow(t, b, size, nil, api.ErrLength)
					continue
				}
				var want []int
				for at := 0; at < length; at += size {
					want = append(want, value(b[at:at+size]))
				}
				checkUnrow(t, b, size, want, api.OK)
			}
		}
	}
}

func TestUnrowOfNoBytes(t *testing.T) {
	for size := 1; size <= 4; size++ {
		checkUnrow(t, nil, size, nil, api.OK)
		checkUnrow(t, []byte{}, size, nil, api.OK)
		checkUnrow(t, withSpare[byte](nil), size, nil, api.OK)
	}
}

func TestUnrowReversesRow(t *testing.T) {
	for size := 1; size <= 4; size++ {
		list := slices.Repeat(fitting(size), 30)
		row, e := cell.Row(size, list...)
		if e != api.OK {
			t.Fatalf("Row of size %d: %d", size, e)
		}
		checkUnrow(t, row, size, list, api.OK)
	}
}

func TestUnrowRefusesOtherSizes(t *testing.T) {
	for _, size := range notSizes {
		// The size is told before the length, whichever sizes divide that.
		for _, b := range [][]byte{nil, {}, {1}, mixed(2, 1), mixed(5, 2), mixed(7, 3), mixed(240, 4), mixed(257, 5)} {
			checkUnrow(t, b, size, nil, api.ErrArg)
		}
	}
}

func checkUnrow(t *testing.T, b []byte, size int, want []int, wantE api.Errno) {
	t.Helper()
	if got, e := cell.Unrow(b, size); !slices.Equal(got, want) || e != wantE {
		t.Errorf("Unrow(%x, %d) = %d, %d, want %d, %d", b, size, got, e, want, wantE)
	}
}

// P1, R4 and R5 for all functions.

func TestArgumentsAreLeftAlone(t *testing.T) {
	for _, length := range []int{0, 1, 3, 4, 12, 61} {
		for size := -1; size <= 6; size++ {
			b := withSpare(mixed(length, 7))
			before := slices.Clone(b[:cap(b)])
			cell.Put(b, size, 200)
			cell.Put(b, size, -1)
			cell.Get(b, 0, size)
			cell.Get(b, length, size)
			cell.Unrow(b, size)
			if after := b[:cap(b)]; !bytes.Equal(after, before) {
				t.Errorf("with size %d %x became %x", size, before, after)
			}
			list := withSpare([]int{3, 1, 2, 255, 65535, 65536}[:min(length, 6)])
			numbers := slices.Clone(list[:cap(list)])
			cell.Row(size, list...)
			if after := list[:cap(list)]; !slices.Equal(after, numbers) {
				t.Errorf("Row of size %d: %d became %d", size, numbers, after)
			}
		}
	}
}

func TestPutReturnsNewMemory(t *testing.T) {
	for size := 1; size <= 4; size++ {
		for _, before := range prefixes {
			given := withSpare(before)
			checkNewMemory(t, given, func() ([]byte, api.Errno) { return cell.Put(given, size, 77) })
			// A result with spare capacity is an argument like others.
			put, _ := cell.Put(given, size, 78)
			checkNewMemory(t, put, func() ([]byte, api.Errno) { return cell.Put(put, size, 79) })
		}
	}
}

func TestRowReturnsNewMemory(t *testing.T) {
	for size := 1; size <= 4; size++ {
		for length := range 20 {
			given := withSpare(slices.Repeat([]int{77}, length))
			checkNewMemory(t, given, func() ([]byte, api.Errno) { return cell.Row(size, given...) })
		}
	}
}

func TestUnrowReturnsNewMemory(t *testing.T) {
	for size := 1; size <= 4; size++ {
		for count := range 20 {
			given := withSpare(mixed(count*size, 8))
			checkNewMemory(t, given, func() ([]int, api.Errno) { return cell.Unrow(given, size) })
		}
	}
}

// checkNewMemory makes the same call several times, and overwrites what it returns.
func checkNewMemory[G, R byte | int](t *testing.T, given []G, call func() ([]R, api.Errno)) {
	t.Helper()
	before := slices.Clone(given[:cap(given)])
	first, firstE := call()
	want := slices.Clone(first)
	second, _ := call()
	overwrite(second)
	if !slices.Equal(first, want) {
		t.Errorf("two results of a call with %d share memory", given)
	}
	overwrite(first)
	if !slices.Equal(given[:cap(given)], before) {
		t.Errorf("the result of a call with %d shares memory with it", before[:len(given)])
	}
	if third, e := call(); !slices.Equal(third, want) || e != firstE {
		t.Errorf("a call with %d returned %d, %d, and then %d, %d", given, want, firstE, third, e)
	}
}

func overwrite[T byte | int](list []T) {
	list = list[:cap(list)]
	for i := range list {
		list[i] = 0x5A
	}
}

func TestResultsDoNotDependOnEarlierCalls(t *testing.T) {
	for range 3 {
		checkPut(t, []byte{9}, 3, 258, []byte{9, 0, 1, 2}, api.OK)
		checkPut(t, nil, 1, 256, nil, api.ErrRange)
		checkGet(t, []byte{9, 0, 1, 2}, 1, 3, 258, api.OK)
		checkGet(t, []byte{9}, 1, 1, 0, api.ErrShort)
		checkRow(t, 2, []int{1, 2}, []byte{0, 1, 0, 2}, api.OK)
		checkRow(t, 0, nil, nil, api.ErrArg)
		checkUnrow(t, []byte{0, 1, 0, 2}, 2, []int{1, 2}, api.OK)
		checkUnrow(t, []byte{0, 1, 0}, 2, nil, api.ErrLength)
	}
}
