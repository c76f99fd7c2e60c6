package basin_test

import (
	"bytes"
	"math"
	"slices"
	"testing"

	"stopcock/api"
	"stopcock/basin"
)

// maxSectors is written as a number: a limit that the program misreads shows.
const maxSectors = 424

// blank is a sector that was never written.
var blank = make([]byte, 64)

// filled returns a sector whose bytes differ from one another and from those of other seeds.
func filled(seed int) []byte {
	b := make([]byte, 64)
	for i := range b {
		b[i] = byte(i*37 + seed*11 + 1)
	}
	b[0], b[31], b[62], b[63] = byte(seed), byte(seed>>8), byte(seed), byte(seed>>8)+1
	return b
}

func write(at, seed int) api.Write { return api.Write{At: at, Data: filled(seed)} }

func device(t *testing.T, sectors int) *basin.Basin {
	t.Helper()
	d, e := basin.New(sectors)
	if d == nil || e != api.OK {
		t.Fatalf("New(%d) = %v, %d", sectors, d, e)
	}
	return d
}

// dead returns a device of 4 sectors whose power is off, with one durable write and two loose ones.
func dead(t *testing.T) *basin.Basin {
	t.Helper()
	d := device(t, 4)
	checkPut(t, d, api.OK, write(0, 1))
	checkFlush(t, d, api.OK)
	checkPut(t, d, api.OK, write(0, 2), write(1, 3))
	d.Fail(0)
	checkFlush(t, d, api.ErrDown)
	return d
}

func checkGet(t *testing.T, d *basin.Basin, at int, want []byte, wantE api.Errno) {
	t.Helper()
	if got, e := d.Get(at); !bytes.Equal(got, want) || e != wantE {
		t.Errorf("Get(%d) = %x, %d, want %x, %d", at, got, e, want, wantE)
	}
}

// checkSectors compares all sectors with those of the seeds, of which -1 is a blank one.
func checkSectors(t *testing.T, d *basin.Basin, seeds ...int) {
	t.Helper()
	if d.Size() != len(seeds) {
		t.Errorf("Size() = %d, want %d", d.Size(), len(seeds))
	}
	for at, seed := range seeds {
		checkGet(t, d, at, content(seed), api.OK)
	}
}

func content(seed int) []byte {
	if seed < 0 {
		return blank
	}
	return filled(seed)
}

func checkPut(t *testing.T, d *basin.Basin, want api.Errno, list ...api.Write) {
	t.Helper()
	if e := d.Put(list...); e != want {
		t.Errorf("Put of %d writes = %d, want %d", len(list), e, want)
	}
}

func checkFlush(t *testing.T, d *basin.Basin, want api.Errno) {
	t.Helper()
	if e := d.Flush(); e != want {
		t.Errorf("Flush() = %d, want %d", e, want)
	}
}

func checkLoose(t *testing.T, d *basin.Basin, want int) {
	t.Helper()
	if n := d.Loose(); n != want {
		t.Errorf("Loose() = %d, want %d", n, want)
	}
}

// P5.1: New, Size and Get.

func TestNewDevicesAreBlank(t *testing.T) {
	for sectors := 1; sectors <= maxSectors; sectors++ {
		d := device(t, sectors)
		if d.Size() != sectors {
			t.Errorf("New(%d) has %d sectors", sectors, d.Size())
		}
		checkLoose(t, d, 0)
		checkGet(t, d, 0, blank, api.OK)
		checkGet(t, d, sectors/2, blank, api.OK)
		checkGet(t, d, sectors-1, blank, api.OK)
		checkGet(t, d, sectors, nil, api.ErrRange)
	}
	d := device(t, maxSectors)
	for at := range maxSectors {
		checkGet(t, d, at, blank, api.OK)
	}
}

func TestNewRefusesOtherSizes(t *testing.T) {
	for _, sectors := range []int{
		0, -1, -2, -424, 425, 426, 448, 1000, 1<<16 + 1, 1 << 32, 1<<32 + 4, -1<<32 + 4,
		math.MaxInt32, math.MinInt32, math.MaxInt, math.MinInt, math.MinInt + 1,
	} {
		if d, e := basin.New(sectors); d != nil || e != api.ErrArg {
			t.Errorf("New(%d) = %v, %d, want nil, ErrArg", sectors, d, e)
		}
	}
}

// notSectors are no sectors of a device of that size. The far ones have low bits that look like a sector.
func notSectors(size int) []int {
	return []int{
		-1, -2, -size, -64, size, size + 1, size + 64, 424, 1 << 16, 1 << 32, 1<<32 + 1, -1 << 32, -1<<32 + 1,
		math.MaxInt32, math.MinInt32, math.MaxInt, math.MinInt, math.MinInt + 1,
	}
}

func TestGetRefusesOtherSectors(t *testing.T) {
	for _, size := range []int{1, 4, 40, 424} {
		d := device(t, size)
		for _, at := range notSectors(size) {
			checkGet(t, d, at, nil, api.ErrRange)
		}
		checkPut(t, d, api.OK, write(size-1, 5))
		for _, at := range notSectors(size) {
			checkGet(t, d, at, nil, api.ErrRange)
		}
	}
}

func TestGetNamesThePowerFirst(t *testing.T) {
	d := dead(t)
	for _, at := range append(notSectors(4), 0, 1, 2, 3) {
		checkGet(t, d, at, nil, api.ErrDown)
	}
	if d.Size() != 4 {
		t.Errorf("without power Size() = %d", d.Size())
	}
}

func TestGetReturnsWhatWasWrittenLast(t *testing.T) {
	d := device(t, 3)
	checkPut(t, d, api.OK, write(1, 1))
	checkSectors(t, d, -1, 1, -1)
	checkPut(t, d, api.OK, write(1, 2))
	checkSectors(t, d, -1, 2, -1)
	checkPut(t, d, api.OK, write(0, 3), write(2, 4))
	checkSectors(t, d, 3, 2, 4)
	checkFlush(t, d, api.OK)
	checkSectors(t, d, 3, 2, 4)
	checkPut(t, d, api.OK, write(1, 5))
	checkSectors(t, d, 3, 5, 4)
	checkPut(t, d, api.OK, api.Write{At: 1, Data: blank})
	checkSectors(t, d, 3, -1, 4)
}

func TestEverySectorIsItsOwn(t *testing.T) {
	d := device(t, maxSectors)
	for at := range maxSectors {
		checkPut(t, d, api.OK, write(at, at))
	}
	checkLoose(t, d, maxSectors)
	for range 2 {
		for at := range maxSectors {
			checkGet(t, d, at, filled(at), api.OK)
		}
		checkFlush(t, d, api.OK)
		d.Crash()
	}
}

// P5.2: Put, Flush and Loose.

func TestPutWritesInOrder(t *testing.T) {
	d := device(t, 3)
	checkPut(t, d, api.OK, write(0, 1), write(2, 2), write(0, 3), write(2, 4), write(0, 5))
	checkSectors(t, d, 5, -1, 4)
	// Each write counts, also one that another one follows.
	checkLoose(t, d, 5)
	checkPut(t, d, api.OK, write(0, 5))
	checkLoose(t, d, 6)
}

func TestPutOfNothing(t *testing.T) {
	d := device(t, 2)
	checkPut(t, d, api.OK)
	checkPut(t, d, api.OK, []api.Write{}...)
	d.Fail(0)
	// Without a write there is no attempt at which the power could fail.
	checkPut(t, d, api.OK)
	checkSectors(t, d, -1, -1)
	checkLoose(t, d, 0)
	checkPut(t, d, api.ErrDown, write(0, 1))
	checkPut(t, d, api.ErrDown)
}

var notLengths = []int{0, 1, 2, 32, 60, 63, 65, 66, 68, 127, 128, 256, 320, 65536 + 64}

func TestPutRefusesOtherLengths(t *testing.T) {
	d := device(t, 4)
	checkPut(t, d, api.OK, write(0, 1))
	for _, length := range notLengths {
		wrong := api.Write{At: 1, Data: make([]byte, length)}
		checkRefused(t, d, api.ErrLength, wrong)
		wrong.Data = append(make([]byte, 0, 65600), wrong.Data...)
		checkRefused(t, d, api.ErrLength, wrong)
	}
	checkRefused(t, d, api.ErrLength, api.Write{})
	checkRefused(t, d, api.ErrLength, api.Write{At: 1})
	// What has the capacity of a sector, or too much of it, does not have its length.
	checkRefused(t, d, api.ErrLength, api.Write{At: 1, Data: filled(1)[:63]})
	checkRefused(t, d, api.ErrLength, api.Write{At: 1, Data: filled(1)[1:]})
}

func TestPutRefusesOtherSectors(t *testing.T) {
	d := device(t, 4)
	checkPut(t, d, api.OK, write(0, 1))
	for _, at := range notSectors(4) {
		checkRefused(t, d, api.ErrRange, write(at, 2))
	}
}

func TestPutNamesTheLengthBeforeTheRange(t *testing.T) {
	d := device(t, 4)
	checkPut(t, d, api.OK, write(0, 1))
	for _, at := range notSectors(4) {
		for _, length := range notLengths {
			wrong := api.Write{At: at, Data: make([]byte, length)}
			checkRefused(t, d, api.ErrLength, wrong)
			// The wrong sector comes before the wrong length in the list, and after it.
			wrong.At = 2
			checkPut(t, d, api.ErrLength, write(at, 2), wrong)
			checkPut(t, d, api.ErrLength, wrong, write(at, 2))
		}
	}
	checkSectors(t, d, 1, -1, -1, -1)
	checkLoose(t, d, 1)
}

// checkRefused puts a wrong write at each position among right ones, into a device whose sector 0 has seed 1 and which has no other write.
func checkRefused(t *testing.T, d *basin.Basin, want api.Errno, wrong api.Write) {
	t.Helper()
	for i := range 4 {
		list := slices.Insert([]api.Write{write(0, 7), write(1, 8), write(3, 9)}, i, wrong)
		checkPut(t, d, want, list...)
	}
	checkPut(t, d, want, wrong)
	checkSectors(t, d, 1, -1, -1, -1)
	checkLoose(t, d, 1)
}

func TestRefusedWritesAreNoAttempts(t *testing.T) {
	d := device(t, 2)
	d.Fail(1)
	for range 5 {
		checkPut(t, d, api.ErrLength, write(0, 1), api.Write{At: 1})
		checkPut(t, d, api.ErrRange, write(0, 1), write(2, 1))
	}
	checkPut(t, d, api.OK, write(0, 2))
	for range 5 {
		checkPut(t, d, api.ErrLength, api.Write{At: 1})
		checkPut(t, d, api.ErrRange, write(-1, 1))
		checkSectors(t, d, 2, -1)
	}
	checkPut(t, d, api.ErrDown, write(1, 3))
}

func TestPutNamesThePowerFirst(t *testing.T) {
	d := dead(t)
	checkPut(t, d, api.ErrDown)
	checkPut(t, d, api.ErrDown, write(0, 9))
	checkPut(t, d, api.ErrDown, write(4, 9))
	checkPut(t, d, api.ErrDown, write(0, 9), write(math.MinInt, 9))
	checkPut(t, d, api.ErrDown, api.Write{})
	checkPut(t, d, api.ErrDown, api.Write{At: -1, Data: make([]byte, 65)})
	checkFlush(t, d, api.ErrDown)
	checkLoose(t, d, 2)
	d.Crash(0, 1)
	checkSectors(t, d, 2, 3, -1, -1)
}

func TestFlushMakesDurable(t *testing.T) {
	d := device(t, 3)
	checkFlush(t, d, api.OK)
	checkPut(t, d, api.OK, write(0, 1), write(1, 2), write(0, 3))
	checkLoose(t, d, 3)
	checkFlush(t, d, api.OK)
	checkLoose(t, d, 0)
	checkPut(t, d, api.OK, write(0, 4), write(2, 5))
	checkLoose(t, d, 2)
	d.Crash()
	checkSectors(t, d, 3, 2, -1)
	checkLoose(t, d, 0)
	checkFlush(t, d, api.OK)
	checkSectors(t, d, 3, 2, -1)
}

func TestWithoutFlushNothingIsDurable(t *testing.T) {
	d := device(t, 3)
	checkPut(t, d, api.OK, write(0, 1), write(1, 2))
	d.Crash()
	checkSectors(t, d, -1, -1, -1)
	checkLoose(t, d, 0)
}

func TestDevicesAreSeparate(t *testing.T) {
	a, b := device(t, 2), device(t, 2)
	checkPut(t, a, api.OK, write(0, 1))
	checkSectors(t, b, -1, -1)
	checkLoose(t, b, 0)
	checkFlush(t, b, api.OK)
	checkLoose(t, a, 1)
	a.Fail(0)
	checkPut(t, b, api.OK, write(1, 2))
	checkPut(t, a, api.ErrDown, write(1, 3))
	b.Crash(0)
	checkGet(t, a, 0, nil, api.ErrDown)
	checkSectors(t, b, -1, 2)
}

// P5.3: Fail.

func TestPowerFailsBehindSoManyWrites(t *testing.T) {
	for after := range 8 {
		for before := range 3 {
			d := device(t, 10)
			for at := range before {
				checkPut(t, d, api.OK, write(9-at, at))
			}
			d.Fail(after)
			for at := range after {
				checkPut(t, d, api.OK, write(at, 20+at))
			}
			// Until the attempt the sectors can be read, as often as one likes.
			for at := range after {
				checkGet(t, d, at, filled(20+at), api.OK)
			}
			for range 3 {
				checkPut(t, d, api.ErrDown, write(8, 50))
				checkFlush(t, d, api.ErrDown)
				checkGet(t, d, 0, nil, api.ErrDown)
			}
			checkLoose(t, d, before+after)
		}
	}
}

func TestPowerFailsBehindSoManyFlushes(t *testing.T) {
	for after := range 8 {
		d := device(t, 2)
		checkPut(t, d, api.OK, write(0, 1))
		d.Fail(after)
		for range after {
			checkFlush(t, d, api.OK)
		}
		checkGet(t, d, 0, filled(1), api.OK)
		checkFlush(t, d, api.ErrDown)
		checkGet(t, d, 0, nil, api.ErrDown)
		checkFlush(t, d, api.ErrDown)
		checkPut(t, d, api.ErrDown, write(1, 2))
		d.Crash()
		if after > 0 {
			checkSectors(t, d, 1, -1)
		} else {
			// The flush at which the power fails makes nothing durable.
			checkSectors(t, d, -1, -1)
		}
	}
}

func TestPowerFailsInTheMiddleOfAPut(t *testing.T) {
	for after := range 6 {
		d := device(t, 6)
		d.Fail(after)
		list := make([]api.Write, 0, 5)
		want := []int{-1, -1, -1, -1, -1, -1}
		for at := range 5 {
			list = append(list, write(at, at))
			if at < after {
				want[at] = at
			}
		}
		if after < 5 {
			checkPut(t, d, api.ErrDown, list...)
		} else {
			checkPut(t, d, api.OK, list...)
			checkSectors(t, d, want...)
			checkFlush(t, d, api.ErrDown)
		}
		checkLoose(t, d, min(after, 5))
		d.Crash(0, 1, 2, 3, 4)
		checkSectors(t, d, want...)
	}
}

func TestWritesAndFlushesCountTogether(t *testing.T) {
	d := device(t, 4)
	d.Fail(5)
	checkPut(t, d, api.OK, write(0, 1), write(1, 2))
	checkFlush(t, d, api.OK)
	checkPut(t, d, api.OK, write(2, 3))
	checkFlush(t, d, api.OK)
	checkSectors(t, d, 1, 2, 3, -1)
	checkPut(t, d, api.ErrDown, write(3, 4))
	checkLoose(t, d, 0)
	d.Crash()
	checkSectors(t, d, 1, 2, 3, -1)
}

func TestTheLastFailCounts(t *testing.T) {
	d := device(t, 2)
	d.Fail(0)
	d.Fail(2)
	checkPut(t, d, api.OK, write(0, 1))
	d.Fail(1)
	checkPut(t, d, api.OK, write(0, 2))
	d.Fail(math.MaxInt)
	checkPut(t, d, api.OK, write(0, 3), write(0, 4), write(0, 5))
	checkFlush(t, d, api.OK)
	d.Fail(0)
	checkSectors(t, d, 5, -1)
	checkPut(t, d, api.ErrDown, write(1, 6))
}

func TestNegativeFailsNever(t *testing.T) {
	for _, after := range []int{-1, -2, -64, math.MinInt32, -1 << 32, math.MinInt, math.MinInt + 1} {
		d := device(t, 2)
		d.Fail(0)
		d.Fail(after)
		for seed := range 100 {
			checkPut(t, d, api.OK, write(seed%2, seed))
			checkFlush(t, d, api.OK)
		}
		checkSectors(t, d, 98, 99)
	}
}

func TestFarFailsAreFar(t *testing.T) {
	for _, after := range []int{200, 256, 1 << 16, 1 << 32, math.MaxInt32, math.MaxInt - 1, math.MaxInt} {
		d := device(t, 2)
		d.Fail(after)
		for seed := range 100 {
			checkPut(t, d, api.OK, write(seed%2, seed))
			checkFlush(t, d, api.OK)
		}
		checkSectors(t, d, 98, 99)
	}
}

func TestFailBringsNoPowerBack(t *testing.T) {
	for _, after := range []int{-1, 0, 1, 100, math.MaxInt, math.MinInt} {
		d := dead(t)
		d.Fail(after)
		checkGet(t, d, 0, nil, api.ErrDown)
		checkPut(t, d, api.ErrDown, write(0, 9))
		checkFlush(t, d, api.ErrDown)
		checkLoose(t, d, 2)
		d.Crash(1)
		// What was asked for before the crash no longer holds.
		for seed := range 5 {
			checkPut(t, d, api.OK, write(2, seed))
			checkFlush(t, d, api.OK)
		}
		checkSectors(t, d, 1, 3, 4, -1)
	}
}

// P5.3: Crash.

func TestCrashKeepsEverySetOfWrites(t *testing.T) {
	places := []int{0, 1, 0, 2, 1, 0, 2}
	for set := range 1 << len(places) {
		want := []int{40, -1, -1, -1}
		var keep []int
		for n, at := range places {
			if set>>n&1 == 1 {
				keep = append(keep, n)
				want[at] = n
			}
		}
		// The writes become durable in their own order, whatever that of their numbers.
		backward := slices.Clone(keep)
		slices.Reverse(backward)
		for _, list := range [][]int{keep, backward, slices.Concat(backward, keep), slices.Concat([]int{-1, 7, 64, math.MinInt, math.MaxInt, 1 << 32}, keep)} {
			d := device(t, 4)
			checkPut(t, d, api.OK, write(3, 41), write(0, 40))
			d.Crash(1)
			for n, at := range places {
				checkPut(t, d, api.OK, write(at, n))
			}
			checkLoose(t, d, len(places))
			d.Crash(list...)
			checkLoose(t, d, 0)
			checkSectors(t, d, want...)
			// What was kept is durable, and what was undone does not come back.
			d.Crash(0, 1, 2, 3, 4, 5, 6)
			checkSectors(t, d, want...)
		}
	}
}

func TestCrashCountsFromTheLastFlushOrCrash(t *testing.T) {
	d := device(t, 4)
	checkPut(t, d, api.OK, write(0, 1), write(1, 2))
	checkFlush(t, d, api.OK)
	checkPut(t, d, api.OK, write(0, 3), write(1, 4))
	d.Crash(1)
	checkSectors(t, d, 1, 4, -1, -1)
	checkPut(t, d, api.OK, write(2, 5), write(1, 6), write(3, 7))
	d.Crash(0)
	checkSectors(t, d, 1, 4, 5, -1)
}

func TestCrashIgnoresOtherNumbers(t *testing.T) {
	d := device(t, 3)
	d.Crash(0, -1, 1)
	checkPut(t, d, api.OK, write(0, 1), write(1, 2), write(2, 3))
	d.Crash(-1, -2, -3, 3, 4, 256, 257, 1<<32, 1<<32+1, -1<<32, math.MinInt, math.MaxInt, math.MinInt+1)
	checkSectors(t, d, -1, -1, -1)
}

func TestCrashRestoresThePower(t *testing.T) {
	d := dead(t)
	d.Crash()
	checkSectors(t, d, 1, -1, -1, -1)
	checkPut(t, d, api.OK, write(3, 4))
	checkFlush(t, d, api.OK)
	checkSectors(t, d, 1, -1, -1, 4)
	d = dead(t)
	d.Crash(1)
	checkSectors(t, d, 1, 3, -1, -1)
	d = dead(t)
	d.Crash(0)
	checkSectors(t, d, 2, -1, -1, -1)
}

func TestCrashCancelsFail(t *testing.T) {
	for after := range 4 {
		d := device(t, 2)
		d.Fail(after)
		d.Crash()
		for seed := range 10 {
			checkPut(t, d, api.OK, write(1, seed))
			checkFlush(t, d, api.OK)
		}
		checkSectors(t, d, -1, 9)
	}
}

// All promises together, against a device that keeps every write and computes each sector anew.

type reference struct {
	size    int
	lasting []api.Write
	loose   []api.Write
	down    bool
	budget  int
}

func (r *reference) spend() bool {
	if r.budget == 0 {
		r.down = true
	}
	if r.down {
		return false
	}
	r.budget--
	return true
}

func (r *reference) put(list []api.Write) api.Errno {
	if r.down {
		return api.ErrDown
	}
	worst := api.OK
	for _, w := range list {
		if w.At < 0 || w.At >= r.size {
			worst = api.ErrRange
		}
	}
	for _, w := range list {
		if len(w.Data) != 64 {
			worst = api.ErrLength
		}
	}
	if worst != api.OK {
		return worst
	}
	for _, w := range list {
		if !r.spend() {
			return api.ErrDown
		}
		r.loose = append(r.loose, w)
	}
	return api.OK
}

func (r *reference) flush() api.Errno {
	if !r.spend() {
		return api.ErrDown
	}
	r.lasting, r.loose = append(r.lasting, r.loose...), nil
	return api.OK
}

func (r *reference) crash(keep []int) {
	for n, w := range r.loose {
		if slices.Contains(keep, n) {
			r.lasting = append(r.lasting, w)
		}
	}
	r.loose, r.down, r.budget = nil, false, -1
}

func (r *reference) get(at int) ([]byte, api.Errno) {
	if r.down {
		return nil, api.ErrDown
	}
	if at < 0 || at >= r.size {
		return nil, api.ErrRange
	}
	data := blank
	for _, w := range slices.Concat(r.lasting, r.loose) {
		if w.At == at {
			data = w.Data
		}
	}
	return data, api.OK
}

// dice returns numbers that look random, the same ones for the same seed.
func dice(seed uint32) func(n int) int {
	return func(n int) int {
		seed = seed*1664525 + 1013904223
		return int(seed>>8) % n
	}
}

func TestAgainstTheReference(t *testing.T) {
	for seed := range uint32(60) {
		roll := dice(seed * 7919)
		size := 1 + roll(9)
		d, r := device(t, size), &reference{size: size, budget: -1}
		for step := range 150 {
			act(t, d, r, roll, step)
			checkLoose(t, d, len(r.loose))
			for at := -1; at <= size; at++ {
				want, e := r.get(at)
				checkGet(t, d, at, want, e)
			}
			if t.Failed() {
				t.Fatalf("seed %d, step %d", seed, step)
			}
		}
	}
}

// act does the same with a device and with the reference.
func act(t *testing.T, d *basin.Basin, r *reference, roll func(int) int, step int) {
	t.Helper()
	switch roll(10) {
	default:
		var list []api.Write
		for range roll(5) {
			list = append(list, write(roll(r.size), step*10+len(list)))
		}
		if len(list) > 0 && roll(6) == 0 {
			list[roll(len(list))].At = r.size - (r.size+1)*roll(2)
		}
		if len(list) > 0 && roll(6) == 0 {
			list[roll(len(list))].Data = make([]byte, 63+2*roll(2))
		}
		checkPut(t, d, r.put(list), list...)
	case 6:
		checkFlush(t, d, r.flush())
	case 7:
		after := roll(12) - 2
		d.Fail(after)
		r.budget = max(after, -1)
	case 8, 9:
		var keep []int
		for range roll(8) {
			keep = append(keep, roll(10)-1)
		}
		d.Crash(keep...)
		r.crash(keep)
	}
}

// P1 and R1: no device, and one that New did not make.

func TestNilDevice(t *testing.T) {
	var d *basin.Basin
	for range 2 {
		if d.Size() != 0 || d.Loose() != 0 {
			t.Errorf("Size() = %d, Loose() = %d", d.Size(), d.Loose())
		}
		for _, at := range []int{0, 1, -1, 424, math.MaxInt, math.MinInt} {
			checkGet(t, d, at, nil, api.ErrArg)
		}
		checkPut(t, d, api.ErrArg)
		checkPut(t, d, api.ErrArg, write(0, 1))
		checkPut(t, d, api.ErrArg, write(-1, 1))
		checkPut(t, d, api.ErrArg, api.Write{})
		checkFlush(t, d, api.ErrArg)
		d.Fail(0)
		d.Fail(-1)
		d.Crash()
		d.Crash(0, 1, -1)
	}
}

func TestEmptyDevice(t *testing.T) {
	d := new(basin.Basin)
	checkSectors(t, d)
	checkGet(t, d, 0, nil, api.ErrRange)
	checkPut(t, d, api.ErrRange, write(0, 1))
	checkFlush(t, d, api.OK)
	d.Fail(0)
	checkFlush(t, d, api.ErrDown)
	d.Crash(0)
	checkFlush(t, d, api.OK)
}

// R4: memory.

func TestArgumentsAreLeftAloneAndNotKept(t *testing.T) {
	for _, lasting := range []bool{false, true} {
		d := device(t, 2)
		whole := bytes.Repeat([]byte{0xA5}, 200)
		copy(whole, filled(1))
		list := []api.Write{{At: 0, Data: whole[:64]}, {At: 1, Data: whole[:64]}, {At: 77}}
		before := slices.Clone(whole)
		checkPut(t, d, api.OK, list[:2]...)
		if !bytes.Equal(whole, before) {
			t.Errorf("Put changed the bytes it was given")
		}
		if list[0].At != 0 || list[1].At != 1 || list[2].At != 77 || list[2].Data != nil {
			t.Errorf("Put changed the list it was given: %v", list)
		}
		if lasting {
			checkFlush(t, d, api.OK)
		}
		clear(whole)
		clear(list)
		checkSectors(t, d, 1, 1)
		d.Crash(0, 1)
		if !lasting {
			checkSectors(t, d, 1, 1)
		}
	}
}

func TestCrashLeavesItsNumbersAlone(t *testing.T) {
	d := device(t, 2)
	checkPut(t, d, api.OK, write(0, 1), write(1, 2))
	keep := []int{5, 1, -1, 1, 0, 99, 98}
	want := slices.Clone(keep)
	d.Crash(keep[:5]...)
	if !slices.Equal(keep, want) {
		t.Errorf("Crash changed its numbers to %d", keep)
	}
	clear(keep)
	checkSectors(t, d, 1, 2)
}

func TestGetReturnsNewMemory(t *testing.T) {
	d := device(t, 3)
	checkPut(t, d, api.OK, write(0, 1))
	checkFlush(t, d, api.OK)
	checkPut(t, d, api.OK, write(1, 2))
	for range 3 {
		for at, seed := range []int{1, 2, -1} {
			first, _ := d.Get(at)
			second, _ := d.Get(at)
			overwrite(first)
			if !bytes.Equal(second, content(seed)) {
				t.Errorf("two results of Get(%d) share memory", at)
			}
			overwrite(second)
			checkSectors(t, d, 1, 2, -1)
		}
	}
	d.Crash(0)
	checkSectors(t, d, 1, 2, -1)
}

func overwrite(b []byte) {
	b = b[:cap(b)]
	for i := range b {
		b[i] = 0x5A
	}
}
