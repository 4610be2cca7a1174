package disk_test

import (
	"math"
	"math/rand"
	"slices"
	"strconv"
	"strings"
	"testing"

	"chrysalis/api"
	"chrysalis/disk"
)

const (
	blockSize = 64
	maskBits  = 64
	all       = uint64(math.MaxUint64)
)

// block returns the bytes of a block, all of which depend on n, and which no other n has.
func block(n int) string {
	out := make([]byte, blockSize)
	for i := range out {
		out[i] = byte(n>>(8*(i%8))) + byte(5*i+1)
	}
	return string(out)
}

func zeros() string {
	return strings.Repeat("\x00", blockSize)
}

func newDisk(t *testing.T, blocks int) *disk.Disk {
	t.Helper()
	d, err := disk.New(blocks)
	if d == nil || err != api.OK {
		t.Fatalf("New(%d) = %p, %d", blocks, d, err)
	}
	return d
}

// write writes s to block i, which must succeed.
func write(t *testing.T, d *disk.Disk, i int, s string) {
	t.Helper()
	checkErr(t, "Write to block "+strconv.Itoa(i), d.Write(i, s), api.OK)
}

// sync syncs, which must succeed.
func sync(t *testing.T, d *disk.Disk) {
	t.Helper()
	checkErr(t, "Sync", d.Sync(), api.OK)
}

func cut(t *testing.T, d *disk.Disk, k int, mask uint64) {
	t.Helper()
	checkErr(t, "Cut("+strconv.Itoa(k)+")", d.Cut(k, mask), api.OK)
}

// failAndStart switches the power on again after a power failure.
func failAndStart(d *disk.Disk, mask uint64) {
	d.Fail(mask)
	d.Start()
}

func checkErr(t *testing.T, what string, got, want api.Errno) {
	t.Helper()
	if got != want {
		t.Fatalf("%s = %d; want %d", what, got, want)
	}
}

func checkRead(t *testing.T, d *disk.Disk, i int, want string) {
	t.Helper()
	if got, err := d.Read(i); got != want || err != api.OK {
		t.Fatalf("Read(%d) = %q, %d; want %q", i, got, err, want)
	}
}

// checkBlocks checks that those blocks have these bytes, and that all others have bytes 0.
func checkBlocks(t *testing.T, d *disk.Disk, want map[int]string) {
	t.Helper()
	for i := range d.Blocks() {
		if s, ok := want[i]; ok {
			checkRead(t, d, i, s)
		} else {
			checkRead(t, d, i, zeros())
		}
	}
}

func checkState(t *testing.T, d *disk.Disk, on bool, ops, waits int) {
	t.Helper()
	if d.On() != on || d.Ops() != ops || d.Waits() != waits {
		t.Fatalf("On, Ops, Waits = %v, %d, %d; want %v, %d, %d", d.On(), d.Ops(), d.Waits(), on, ops, waits)
	}
}

// What is no disk

func checkIsNone(t *testing.T, d *disk.Disk) {
	t.Helper()
	for range 2 {
		for _, i := range []int{0, 3, -1, math.MaxInt} {
			if s, err := d.Read(i); s != "" || err != api.ErrNil {
				t.Errorf("Read(%d) = %q, %d; want ErrNil", i, s, err)
			}
			for _, s := range []string{"", block(1)} {
				checkErr(t, "Write", d.Write(i, s), api.ErrNil)
			}
			checkErr(t, "Cut", d.Cut(i, 1), api.ErrNil)
		}
		checkErr(t, "Sync", d.Sync(), api.ErrNil)
		checkState(t, d, false, 0, 0)
		if n := d.Blocks(); n != 0 {
			t.Errorf("Blocks() = %d; want 0", n)
		}
		if c := d.Copy(); c != nil {
			t.Errorf("Copy() = %p; want nil", c)
		}
		d.Fail(1)
		d.Start()
	}
}

func TestNilDoesNothing(t *testing.T) {
	checkIsNone(t, nil)
}

func TestWhatNewDidNotReturnDoesNothing(t *testing.T) {
	var zero disk.Disk
	checkIsNone(t, &zero)
	checkIsNone(t, new(disk.Disk))
	checkIsNone(t, (&zero).Copy())
}

func TestAssignedDiskDoesNothing(t *testing.T) {
	d := newDisk(t, 16)
	write(t, d, 3, block(1))
	cut(t, d, 1, 1)
	assigned := *d
	checkIsNone(t, &assigned)
	checkState(t, d, true, 1, 1)
	checkBlocks(t, d, map[int]string{3: block(1)})
	sync(t, d)
	checkErr(t, "the interrupted Sync", d.Sync(), api.ErrOff)
	checkIsNone(t, &assigned)
}

// P4.1

func TestNewRefusesNumbersOfBlocks(t *testing.T) {
	for _, blocks := range []int{math.MinInt, -16, -1, 0, 1, 8, 15, 513, 514, 1024, 1 << 32, 1<<32 + 16, math.MaxInt} {
		if d, err := disk.New(blocks); d != nil || err != api.ErrArg {
			t.Errorf("New(%d) = %p, %d; want ErrArg", blocks, d, err)
		}
	}
}

func TestNewDisk(t *testing.T) {
	for _, blocks := range []int{16, 17, 64, 511, 512} {
		d := newDisk(t, blocks)
		if n := d.Blocks(); n != blocks {
			t.Errorf("Blocks() = %d; want %d", n, blocks)
		}
		checkState(t, d, true, 0, 0)
		checkBlocks(t, d, nil)
	}
}

func TestEveryBlockCanBeWritten(t *testing.T) {
	for _, blocks := range []int{16, 17, 512} {
		d := newDisk(t, blocks)
		want := map[int]string{}
		for i := range blocks {
			want[i] = block(i + 1)
			write(t, d, i, want[i])
		}
		checkBlocks(t, d, want)
		sync(t, d)
		failAndStart(d, 0)
		checkBlocks(t, d, want)
	}
}

func TestBlocksStaysTheSame(t *testing.T) {
	d := newDisk(t, 20)
	check := func(when string) {
		t.Helper()
		if n := d.Blocks(); n != 20 {
			t.Errorf("Blocks() %s = %d; want 20", when, n)
		}
	}
	write(t, d, 3, block(1))
	check("with a pending write")
	d.Fail(0)
	check("without power")
	d.Start()
	check("with power again")
}

func TestDisksAreIndependent(t *testing.T) {
	one, two := newDisk(t, 16), newDisk(t, 16)
	write(t, one, 3, block(1))
	sync(t, one)
	cut(t, one, 0, 0)
	checkState(t, two, true, 0, 0)
	checkBlocks(t, two, nil)
	write(t, two, 3, block(2))
	one.Fail(0)
	checkState(t, two, true, 1, 1)
	checkBlocks(t, two, map[int]string{3: block(2)})
}

// P4.2

// badBlocks are no blocks of a disk that has 16.
var badBlocks = []int{math.MinInt, -16, -1, 16, 17, 32, 512, 1 << 32, math.MaxInt}

// badTexts returns texts that do not have the size of a block.
func badTexts() []string {
	var out []string
	for _, size := range []int{0, 1, 63, 65, 128, 320} {
		out = append(out, strings.Repeat("x", size))
	}
	// These are 64 runes.
	return append(out, strings.Repeat("x", 63)+"é")
}

func TestReadRefusesBlocks(t *testing.T) {
	d := newDisk(t, 16)
	for _, i := range badBlocks {
		if s, err := d.Read(i); s != "" || err != api.ErrArg {
			t.Errorf("Read(%d) = %q, %d; want ErrArg", i, s, err)
		}
	}
	checkState(t, d, true, 0, 0)
}

func TestWriteRefusesBlocksAndTexts(t *testing.T) {
	d := newDisk(t, 16)
	write(t, d, 3, block(1))
	for _, i := range badBlocks {
		for _, s := range append(badTexts(), block(2)) {
			checkErr(t, "Write to no block", d.Write(i, s), api.ErrArg)
		}
	}
	for i := range d.Blocks() {
		for _, s := range badTexts() {
			checkErr(t, "Write of no block", d.Write(i, s), api.ErrArg)
		}
	}
	checkState(t, d, true, 1, 1)
	checkBlocks(t, d, map[int]string{3: block(1)})
}

// Without power, ErrOff comes before ErrArg.
func TestNothingIsDoneWithoutPower(t *testing.T) {
	d := newDisk(t, 16)
	write(t, d, 3, block(1))
	sync(t, d)
	d.Fail(0)
	for _, i := range append([]int{0, 3, 15}, badBlocks...) {
		if s, err := d.Read(i); s != "" || err != api.ErrOff {
			t.Errorf("Read(%d) = %q, %d; want ErrOff", i, s, err)
		}
		for _, s := range append(badTexts(), block(2)) {
			checkErr(t, "Write", d.Write(i, s), api.ErrOff)
		}
	}
	checkErr(t, "Sync", d.Sync(), api.ErrOff)
	checkState(t, d, false, 2, 0)
	d.Start()
	checkState(t, d, true, 2, 0)
	checkBlocks(t, d, map[int]string{3: block(1)})
}

func TestAWriteIsReadBackButNotDurable(t *testing.T) {
	d := newDisk(t, 16)
	write(t, d, 3, block(1))
	checkState(t, d, true, 1, 1)
	checkBlocks(t, d, map[int]string{3: block(1)})
	failAndStart(d, 0)
	checkBlocks(t, d, nil)
}

func TestASyncMakesWritesDurable(t *testing.T) {
	d := newDisk(t, 16)
	want := map[int]string{}
	for n, i := range []int{3, 0, 15, 7} {
		want[i] = block(n + 1)
		write(t, d, i, want[i])
	}
	checkState(t, d, true, 4, 4)
	sync(t, d)
	checkState(t, d, true, 5, 0)
	checkBlocks(t, d, want)
	for range 2 {
		failAndStart(d, 0)
		checkState(t, d, true, 5, 0)
		checkBlocks(t, d, want)
	}
}

func TestASyncWithoutWrites(t *testing.T) {
	d := newDisk(t, 16)
	sync(t, d)
	write(t, d, 3, block(1))
	sync(t, d)
	sync(t, d)
	checkState(t, d, true, 4, 0)
	checkBlocks(t, d, map[int]string{3: block(1)})
}

func TestTheLastOfSeveralWritesCounts(t *testing.T) {
	d := newDisk(t, 16)
	for n := range 5 {
		write(t, d, 3, block(n))
		write(t, d, 4, block(100-n))
		checkBlocks(t, d, map[int]string{3: block(n), 4: block(100 - n)})
	}
	checkState(t, d, true, 10, 10)
	sync(t, d)
	checkState(t, d, true, 11, 0)
	failAndStart(d, all)
	checkBlocks(t, d, map[int]string{3: block(4), 4: block(96)})
}

func TestADurableBlockIsOverwritten(t *testing.T) {
	d := newDisk(t, 16)
	write(t, d, 3, block(1))
	sync(t, d)
	write(t, d, 3, block(2))
	checkRead(t, d, 3, block(2))
	failAndStart(d, 0)
	checkRead(t, d, 3, block(1))
	write(t, d, 3, zeros())
	checkRead(t, d, 3, zeros())
	sync(t, d)
	failAndStart(d, 0)
	checkBlocks(t, d, nil)
}

func TestBlocksOfAllBytes(t *testing.T) {
	for _, s := range []string{
		strings.Repeat("\xff", 64), strings.Repeat("\x80", 64), strings.Repeat("é", 32), strings.Repeat("\x00\xff", 32),
		zeros()[:63] + "x", "x" + zeros()[:63], (strings.Repeat("abc", 50))[7:71],
	} {
		d := newDisk(t, 16)
		write(t, d, 15, s)
		checkBlocks(t, d, map[int]string{15: s})
		sync(t, d)
		checkBlocks(t, d, map[int]string{15: s})
	}
}

// Power failures

func TestChapterExamples(t *testing.T) {
	d := newDisk(t, 16)
	write(t, d, 3, block(1))
	failAndStart(d, 0)
	checkRead(t, d, 3, zeros())

	d = newDisk(t, 16)
	write(t, d, 3, block(1))
	write(t, d, 3, block(2))
	failAndStart(d, 1)
	checkRead(t, d, 3, block(1))

	d = newDisk(t, 16)
	cut(t, d, 1, 0)
	write(t, d, 3, block(1))
	checkErr(t, "the interrupted Sync", d.Sync(), api.ErrOff)
}

// withWrites returns a disk with so many pending writes, of which number j writes block(j) to block j modulo the number of blocks.
func withWrites(t *testing.T, blocks, writes int) *disk.Disk {
	t.Helper()
	d := newDisk(t, blocks)
	for j := range writes {
		write(t, d, j%blocks, block(j))
	}
	return d
}

// preserved returns those of so many writes, each to a block of its own, that a mask preserves.
func preserved(mask uint64, writes int) map[int]string {
	out := map[int]string{}
	for j := range writes {
		if mask>>(j%maskBits)&1 == 1 {
			out[j] = block(j)
		}
	}
	return out
}

func TestAMaskOfEachWriteAlone(t *testing.T) {
	for j := range maskBits {
		d := withWrites(t, 100, maskBits)
		failAndStart(d, 1<<j)
		checkState(t, d, true, maskBits, 0)
		checkBlocks(t, d, map[int]string{j: block(j)})

		d = withWrites(t, 100, maskBits)
		failAndStart(d, ^uint64(1<<j))
		checkBlocks(t, d, preserved(^uint64(1<<j), maskBits))
	}
}

// All writes are to the same block here: that with the highest bit of the mask remains.
func TestAMaskOfWritesToOneBlock(t *testing.T) {
	for j := range maskBits {
		for _, mask := range []uint64{1 << j, 1<<j | 1, 1<<j | 1<<(j/2), 1<<j | (1<<j - 1)} {
			d := newDisk(t, 16)
			for k := range maskBits {
				write(t, d, 3, block(k))
			}
			failAndStart(d, mask)
			checkBlocks(t, d, map[int]string{3: block(j)})
		}
	}
}

func TestAMaskPreservesNothingOfWhatWasNotWritten(t *testing.T) {
	d := withWrites(t, 16, 3)
	failAndStart(d, all&^7)
	checkState(t, d, true, 3, 0)
	checkBlocks(t, d, nil)
	failAndStart(d, all)
	checkBlocks(t, d, nil)
}

func TestMoreWritesThanBitsOfAMask(t *testing.T) {
	const writes = 3*maskBits + 10
	for _, mask := range []uint64{0, 1, 2, 1 << 9, 1 << 10, 1 << 63, 5<<20 | 3, 0xaaaaaaaaaaaaaaaa, all} {
		d := withWrites(t, 512, writes)
		checkState(t, d, true, writes, writes)
		d.Fail(mask)
		checkState(t, d, false, writes, 0)
		d.Start()
		checkBlocks(t, d, preserved(mask, writes))
	}
}

func TestMoreWritesToOneBlockThanBitsOfAMask(t *testing.T) {
	for bit := range maskBits {
		d := newDisk(t, 16)
		for j := range 2*maskBits + 5 {
			write(t, d, 3, block(j))
		}
		failAndStart(d, 1<<bit)
		last := maskBits + bit
		if bit < 5 {
			last += maskBits
		}
		checkBlocks(t, d, map[int]string{3: block(last)})
	}
}

func TestWritesAreCountedFromZeroAgain(t *testing.T) {
	for what, end := range map[string]func(d *disk.Disk){
		"a Sync":                   func(d *disk.Disk) { sync(t, d) },
		"a power failure":          func(d *disk.Disk) { failAndStart(d, all) },
		"an interrupted operation": func(d *disk.Disk) { cut(t, d, 0, all); d.Sync(); d.Start() },
	} {
		t.Run(what, func(t *testing.T) {
			d := withWrites(t, 16, 3)
			end(d)
			write(t, d, 5, block(50))
			write(t, d, 6, block(60))
			write(t, d, 0, block(70))
			failAndStart(d, 1|4)
			checkBlocks(t, d, map[int]string{0: block(70), 1: block(1), 2: block(2), 5: block(50)})
		})
	}
}

// With few writes, all masks and all orders of blocks can be tried.
func TestEveryMaskOfFewWrites(t *testing.T) {
	const writes = 4
	for order := range 81 {
		for mask := range 1 << writes {
			d := newDisk(t, 16)
			want := map[int]string{0: block(1000), 1: block(1001)}
			write(t, d, 0, want[0])
			write(t, d, 1, want[1])
			sync(t, d)
			rest := order
			for j := range writes {
				at := rest % 3
				rest /= 3
				write(t, d, at, block(j))
				if mask>>j&1 == 1 {
					want[at] = block(j)
				}
			}
			failAndStart(d, uint64(mask))
			checkBlocks(t, d, want)
		}
	}
}

// P4.3

func TestCutRefusesNegativeNumbers(t *testing.T) {
	for _, k := range []int{-1, -2, math.MinInt} {
		d := newDisk(t, 16)
		checkErr(t, "Cut", d.Cut(k, all), api.ErrArg)
		for range 3 {
			write(t, d, 3, block(1))
			sync(t, d)
		}

		cut(t, d, 1, all)
		checkErr(t, "Cut", d.Cut(k, 0), api.ErrArg)
		write(t, d, 3, block(2))
		checkErr(t, "the interrupted Sync", d.Sync(), api.ErrOff)
		checkErr(t, "Cut without power", d.Cut(k, 0), api.ErrArg)
		d.Start()
		checkRead(t, d, 3, block(2))
		sync(t, d)
	}
}

// checkCut checks a power failure after k operations, which interrupts last. Then that many writes are pending.
func checkCut(t *testing.T, k int, last func(d *disk.Disk) api.Errno, writes int) {
	t.Helper()
	for bit := range maskBits {
		d := withWrites(t, 512, 2)
		cut(t, d, k, 1<<bit)
		for j := 2; j < k+2; j++ {
			write(t, d, j, block(j))
		}
		checkState(t, d, true, k+2, k+2)
		checkErr(t, "the interrupted operation", last(d), api.ErrOff)
		checkState(t, d, false, k+3, 0)
		d.Start()
		checkBlocks(t, d, preserved(1<<bit, writes))
		write(t, d, 300, block(300))
		sync(t, d)
		checkState(t, d, true, k+5, 0)
	}
}

func TestCutAheadOfAWrite(t *testing.T) {
	for _, k := range []int{0, 1, 2, 3, 10, 61, 62, 63, 100} {
		checkCut(t, k, func(d *disk.Disk) api.Errno { return d.Write(k+2, block(k+2)) }, k+3)
	}
}

func TestCutAheadOfASync(t *testing.T) {
	for _, k := range []int{0, 1, 2, 3, 10, 61, 62, 63, 100} {
		checkCut(t, k, (*disk.Disk).Sync, k+2)
	}
}

func TestCutCountsSyncs(t *testing.T) {
	d := newDisk(t, 16)
	cut(t, d, 3, 0)
	sync(t, d)
	write(t, d, 3, block(1))
	sync(t, d)
	checkErr(t, "the interrupted Write", d.Write(3, block(2)), api.ErrOff)
	checkState(t, d, false, 4, 0)
	d.Start()
	checkBlocks(t, d, map[int]string{3: block(1)})
}

func TestAnInterruptedWriteIsPendingBeforeIt(t *testing.T) {
	for mask, want := range map[uint64]int{0: 1, 1: 2, 2: 3, 3: 3, all &^ 3: 1} {
		d := newDisk(t, 16)
		write(t, d, 3, block(1))
		sync(t, d)
		write(t, d, 3, block(2))
		cut(t, d, 0, mask)
		checkErr(t, "the interrupted Write", d.Write(3, block(3)), api.ErrOff)
		d.Start()
		checkBlocks(t, d, map[int]string{3: block(want)})
	}
}

func TestAnInterruptedSyncMakesNothingDurable(t *testing.T) {
	for mask, want := range map[uint64]int{0: 1, 1: 2, 2: 3, 3: 3, all &^ 3: 1} {
		d := newDisk(t, 16)
		write(t, d, 3, block(1))
		sync(t, d)
		write(t, d, 3, block(2))
		write(t, d, 3, block(3))
		cut(t, d, 0, mask)
		checkErr(t, "the interrupted Sync", d.Sync(), api.ErrOff)
		d.Start()
		checkBlocks(t, d, map[int]string{3: block(want)})
	}
}

func TestCutCountsOperationsAlone(t *testing.T) {
	d := newDisk(t, 16)
	cut(t, d, 1, 1)
	for range 5 {
		checkRead(t, d, 3, zeros())
		d.Read(16)
		checkErr(t, "Write to no block", d.Write(16, block(1)), api.ErrArg)
		checkErr(t, "Write of no block", d.Write(3, "x"), api.ErrArg)
		checkErr(t, "Cut", d.Cut(-1, 0), api.ErrArg)
		d.Start()
		d.On()
		d.Ops()
		d.Waits()
		d.Blocks()
		d.Copy().Sync()
	}
	write(t, d, 3, block(1))
	checkErr(t, "Write to no block", d.Write(16, block(1)), api.ErrArg)
	checkErr(t, "the interrupted Write", d.Write(3, block(2)), api.ErrOff)
	d.Start()
	checkBlocks(t, d, map[int]string{3: block(1)})
}

// checkInterrupted checks that k operations succeed, that the next one is interrupted with the mask 1, which preserves the first write, and that none is afterwards.
func checkInterrupted(t *testing.T, d *disk.Disk, k int) {
	t.Helper()
	ops := d.Ops()
	for j := range k {
		write(t, d, j, block(j))
	}
	checkErr(t, "the interrupted Write", d.Write(k, block(k)), api.ErrOff)
	checkState(t, d, false, ops+k+1, 0)
	d.Start()
	checkBlocks(t, d, map[int]string{0: block(0)})
	for range k + 10 {
		sync(t, d)
	}
}

func TestCutInPlaceOfAnEarlierOne(t *testing.T) {
	for _, c := range []struct{ first, done, second int }{
		{0, 0, 0}, {0, 0, 2}, {2, 0, 0}, {2, 1, 2}, {1, 1, 0}, {5, 3, 5}, {5, 3, 1}, {1, 1, 3}, {math.MaxInt, 1, 1},
	} {
		d := newDisk(t, 16)
		cut(t, d, c.first, 0)
		for range c.done {
			sync(t, d)
		}
		cut(t, d, c.second, 1)
		checkInterrupted(t, d, c.second)
	}
}

func TestCutStaysPlannedWithoutPower(t *testing.T) {
	for _, k := range []int{0, 1, 3} {
		d := newDisk(t, 16)
		cut(t, d, k+1, 1)
		sync(t, d)
		for range 3 {
			d.Fail(0)
			for range 5 {
				checkErr(t, "Write without power", d.Write(3, block(50)), api.ErrOff)
				checkErr(t, "Sync without power", d.Sync(), api.ErrOff)
			}
			d.Start()
		}
		checkState(t, d, true, 1, 0)
		checkInterrupted(t, d, k)
	}
}

func TestCutIsPlannedWithoutPower(t *testing.T) {
	for _, k := range []int{0, 1, 3} {
		d := newDisk(t, 16)
		cut(t, d, 7, 0)
		d.Fail(0)
		cut(t, d, k, 1)
		checkErr(t, "Sync without power", d.Sync(), api.ErrOff)
		checkState(t, d, false, 0, 0)
		d.Start()
		checkInterrupted(t, d, k)
	}
}

func TestFailKeepsWhatIsPlanned(t *testing.T) {
	for _, k := range []int{0, 1, 3} {
		d := newDisk(t, 16)
		cut(t, d, k+2, 1)
		write(t, d, 0, block(0))
		write(t, d, 1, block(1))
		d.Fail(1)
		checkState(t, d, false, 2, 0)
		d.Start()
		checkBlocks(t, d, map[int]string{0: block(0)})
		checkInterrupted(t, d, k)
	}
}

// A Fail without power neither changes what is planned nor loses what the mask of an earlier one preserved.
func TestFailWithoutPower(t *testing.T) {
	d := newDisk(t, 16)
	write(t, d, 0, block(0))
	cut(t, d, 2, 1)
	d.Fail(1)
	d.Fail(0)
	d.Fail(all)
	checkState(t, d, false, 1, 0)
	d.Start()
	checkBlocks(t, d, map[int]string{0: block(0)})
	checkInterrupted(t, d, 2)
}

func TestFailIsNoOperation(t *testing.T) {
	d := newDisk(t, 16)
	for range 4 {
		d.Fail(all)
		checkState(t, d, false, 0, 0)
		d.Start()
		checkState(t, d, true, 0, 0)
	}
}

func TestStartWithPower(t *testing.T) {
	d := newDisk(t, 16)
	write(t, d, 0, block(0))
	cut(t, d, 1, 1)
	d.Start()
	checkState(t, d, true, 1, 1)
	checkRead(t, d, 0, block(0))
	write(t, d, 1, block(1))
	d.Start()
	checkErr(t, "the interrupted Sync", d.Sync(), api.ErrOff)
	d.Start()
	d.Start()
	checkState(t, d, true, 3, 0)
	checkBlocks(t, d, map[int]string{0: block(0)})
}

// P4.4

func TestOpsAndWaits(t *testing.T) {
	d := newDisk(t, 16)
	for _, c := range []struct {
		what       string
		do         func() api.Errno
		err        api.Errno
		on         bool
		ops, waits int
	}{
		{"Write", func() api.Errno { return d.Write(3, block(1)) }, api.OK, true, 1, 1},
		{"Write to the same block", func() api.Errno { return d.Write(3, block(1)) }, api.OK, true, 2, 2},
		{"Write to no block", func() api.Errno { return d.Write(16, block(1)) }, api.ErrArg, true, 2, 2},
		{"Write of no block", func() api.Errno { return d.Write(3, "") }, api.ErrArg, true, 2, 2},
		{"Read", func() api.Errno { _, err := d.Read(3); return err }, api.OK, true, 2, 2},
		{"Sync", func() api.Errno { return d.Sync() }, api.OK, true, 3, 0},
		{"Sync again", func() api.Errno { return d.Sync() }, api.OK, true, 4, 0},
		{"Write", func() api.Errno { return d.Write(4, block(2)) }, api.OK, true, 5, 1},
		{"Cut", func() api.Errno { return d.Cut(0, 0) }, api.OK, true, 5, 1},
		{"Write to no block", func() api.Errno { return d.Write(-1, block(1)) }, api.ErrArg, true, 5, 1},
		{"interrupted Write", func() api.Errno { return d.Write(5, block(3)) }, api.ErrOff, false, 6, 0},
		{"Write without power", func() api.Errno { return d.Write(5, block(3)) }, api.ErrOff, false, 6, 0},
		{"Sync without power", func() api.Errno { return d.Sync() }, api.ErrOff, false, 6, 0},
		{"Cut without power", func() api.Errno { return d.Cut(1, 0) }, api.OK, false, 6, 0},
		{"Start", func() api.Errno { d.Start(); return api.OK }, api.OK, true, 6, 0},
		{"Write", func() api.Errno { return d.Write(5, block(3)) }, api.OK, true, 7, 1},
		{"interrupted Sync", func() api.Errno { return d.Sync() }, api.ErrOff, false, 8, 0},
		{"Start", func() api.Errno { d.Start(); return api.OK }, api.OK, true, 8, 0},
		{"Write", func() api.Errno { return d.Write(5, block(3)) }, api.OK, true, 9, 1},
		{"Fail", func() api.Errno { d.Fail(all); return api.OK }, api.OK, false, 9, 0},
	} {
		checkErr(t, c.what, c.do(), c.err)
		checkState(t, d, c.on, c.ops, c.waits)
	}
}

func TestACopyIsInTheSameState(t *testing.T) {
	d := newDisk(t, 20)
	write(t, d, 0, block(100))
	write(t, d, 5, block(105))
	sync(t, d)
	write(t, d, 0, block(0))
	write(t, d, 5, block(5))
	write(t, d, 0, block(200))
	cut(t, d, 1, 1|1<<3)

	c := d.Copy()
	if c == nil || c == d || c.Blocks() != 20 {
		t.Fatalf("Copy() = %p of %p, with %d blocks", c, d, c.Blocks())
	}
	for _, d := range []*disk.Disk{d.Copy(), d, c, c.Copy()} {
		checkState(t, d, true, 6, 3)
		checkBlocks(t, d, map[int]string{0: block(200), 5: block(5)})
		write(t, d, 1, block(1))
		checkErr(t, "the interrupted Sync", d.Sync(), api.ErrOff)
		checkState(t, d, false, 8, 0)
		d.Start()
		checkBlocks(t, d, map[int]string{0: block(0), 1: block(1), 5: block(105)})
		sync(t, d)
	}
}

func TestACopyWithoutPower(t *testing.T) {
	d := newDisk(t, 16)
	write(t, d, 0, block(0))
	cut(t, d, 2, 1)
	d.Fail(1)
	c := d.Copy()
	d.Start()
	checkState(t, c, false, 1, 0)
	checkErr(t, "Sync of the copy", c.Sync(), api.ErrOff)
	c.Start()
	for _, d := range []*disk.Disk{d, c} {
		checkState(t, d, true, 1, 0)
		checkBlocks(t, d, map[int]string{0: block(0)})
		checkInterrupted(t, d, 2)
	}
}

// planned returns a disk with so many pending writes, where the operation after the next one is interrupted with a mask that preserves every other write.
func planned(t *testing.T, writes int) *disk.Disk {
	t.Helper()
	d := newDisk(t, 16)
	write(t, d, 0, block(100))
	sync(t, d)
	for j := range writes {
		write(t, d, j%16, block(j))
	}
	cut(t, d, 1, all/3)
	return d
}

// checkPlanned checks that a disk is still as planned returned it, and does what was planned.
func checkPlanned(t *testing.T, d *disk.Disk, writes int) {
	t.Helper()
	checkState(t, d, true, writes+2, writes)
	read, durable := map[int]string{0: block(100)}, map[int]string{0: block(100)}
	for j := range writes {
		read[j%16] = block(j)
		if j%2 == 0 {
			durable[j%16] = block(j)
		}
	}
	checkBlocks(t, d, read)
	write(t, d, 9, block(300))
	if writes%2 == 0 {
		durable[9] = block(300)
	}
	checkErr(t, "the interrupted Sync", d.Sync(), api.ErrOff)
	checkState(t, d, false, writes+4, 0)
	d.Start()
	checkBlocks(t, d, durable)
}

// changes are ways that a disk can go.
func changes() map[string]func(d *disk.Disk) {
	return map[string]func(d *disk.Disk){
		"Write":         func(d *disk.Disk) { d.Write(0, block(-1)) },
		"Writes":        func(d *disk.Disk) { d.Cut(99, 0); d.Write(3, block(-1)); d.Write(9, block(-2)); d.Write(9, block(-3)) },
		"Sync":          func(d *disk.Disk) { d.Sync() },
		"Sync, Write":   func(d *disk.Disk) { d.Cut(99, 0); d.Sync(); d.Write(0, block(-1)); d.Write(9, block(-2)) },
		"Cut":           func(d *disk.Disk) { d.Cut(0, all) },
		"interruption":  func(d *disk.Disk) { d.Cut(0, all); d.Sync() },
		"Fail":          func(d *disk.Disk) { d.Fail(all) },
		"Fail to Sync":  func(d *disk.Disk) { d.Cut(99, 0); d.Fail(all); d.Start(); d.Write(9, block(-1)); d.Sync() },
		"interruptions": func(d *disk.Disk) { d.Write(1, block(-1)); d.Sync(); d.Start(); d.Cut(0, all); d.Write(9, block(-2)) },
	}
}

// Many numbers of pending writes are tried, because memory that is shared may show only where some of it is spare.
func TestACopyGoesItsOwnWay(t *testing.T) {
	for what, change := range changes() {
		t.Run(what, func(t *testing.T) {
			for writes := range 40 {
				d := planned(t, writes)
				c := d.Copy()
				change(d)
				checkPlanned(t, c, writes)

				d = planned(t, writes)
				c = d.Copy()
				change(c)
				checkPlanned(t, d, writes)
			}
		})
	}
}

func TestACopyAndItsOriginalTakeTurns(t *testing.T) {
	for writes := range 40 {
		d := withWrites(t, 16, writes)
		c := d.Copy()
		for n := range 5 {
			write(t, d, n, block(1000+n))
			write(t, c, n+1, block(2000+n))
		}
		sync(t, c)
		failAndStart(d, 0)
		checkBlocks(t, d, nil)
		want := map[int]string{}
		for j := range writes {
			want[j%16] = block(j)
		}
		for n := range 5 {
			want[n+1] = block(2000 + n)
		}
		checkBlocks(t, c, want)
	}
}

// P4.5

// A model does what the chapter says, word for word. Its copies share nothing that is changed.
type model struct {
	on      bool
	durable [16]string
	pending []pendingWrite
	ops     int
	planned bool
	after   int
	mask    uint64
}

type pendingWrite struct {
	block int
	text  string
}

func newModel() *model {
	m := &model{on: true}
	for i := range m.durable {
		m.durable[i] = zeros()
	}
	return m
}

func (m *model) read(i int) string {
	for _, w := range slices.Backward(m.pending) {
		if w.block == i {
			return w.text
		}
	}
	return m.durable[i]
}

func (m *model) write(i int, s string) api.Errno {
	if !m.on {
		return api.ErrOff
	}
	m.pending = append(slices.Clone(m.pending), pendingWrite{i, s})
	return m.operation()
}

func (m *model) sync() api.Errno {
	if !m.on {
		return api.ErrOff
	}
	if err := m.operation(); err != api.OK {
		return err
	}
	for _, w := range m.pending {
		m.durable[w.block] = w.text
	}
	m.pending = nil
	return api.OK
}

func (m *model) operation() api.Errno {
	m.ops++
	if m.planned && m.after == 0 {
		m.planned = false
		m.fail(m.mask)
		return api.ErrOff
	}
	m.after--
	return api.OK
}

func (m *model) fail(mask uint64) {
	for j, w := range m.pending {
		if mask&(1<<(j%maskBits)) != 0 {
			m.durable[w.block] = w.text
		}
	}
	m.pending, m.on = nil, false
}

// checkModel checks that d is in the state of m. Blocks of a disk without power are read from a copy with power.
func checkModel(t *testing.T, d *disk.Disk, m *model) {
	t.Helper()
	checkState(t, d, m.on, m.ops, len(m.pending))
	if !m.on {
		d = d.Copy()
		d.Start()
	}
	for i := range m.durable {
		checkRead(t, d, i, m.read(i))
	}
}

// change does the same to d and to m, by chance.
func change(t *testing.T, r *rand.Rand, d *disk.Disk, m *model) {
	t.Helper()
	switch n := r.Intn(200); {
	case n < 150:
		i, s := r.Intn(16), block(r.Int())
		checkErr(t, "Write", d.Write(i, s), m.write(i, s))
	case n < 170:
		checkErr(t, "Sync", d.Sync(), m.sync())
	case n < 172:
		k, mask := r.Intn(100), r.Uint64()
		cut(t, d, k, mask)
		m.planned, m.after, m.mask = true, k, mask
	case n < 173:
		mask := r.Uint64()
		d.Fail(mask)
		if m.on {
			m.fail(mask)
		}
	case n < 180:
		d.Start()
		m.on = true
	case n < 190:
		checkErr(t, "Cut", d.Cut(-1-r.Intn(100), r.Uint64()), api.ErrArg)
	default:
		want := api.ErrArg
		if !m.on {
			want = api.ErrOff
		}
		checkErr(t, "Write of no block", d.Write(r.Intn(32), "x"), want)
	}
}

func TestDisksAreAsTheirModels(t *testing.T) {
	for seed := range int64(20) {
		r := rand.New(rand.NewSource(seed))
		disks, models := []*disk.Disk{newDisk(t, 16)}, []*model{newModel()}
		for range 5000 {
			i := r.Intn(len(disks))
			if r.Intn(50) == 0 {
				other := *models[i]
				disks, models = append(disks, disks[i].Copy()), append(models, &other)
			}
			if len(disks) > 4 {
				disks, models = disks[1:], models[1:]
				i = len(disks) - 1
			}
			change(t, r, disks[i], models[i])
			checkModel(t, disks[i], models[i])
		}
		for i := range disks {
			checkModel(t, disks[i], models[i])
		}
	}
}

func TestAfterAPowerFailureABlockIsOneThatItWas(t *testing.T) {
	r := rand.New(rand.NewSource(1))
	for range 200 {
		d := newDisk(t, 16)
		possible := map[int][]string{}
		for i := range 16 {
			s := block(r.Int())
			possible[i] = []string{s}
			write(t, d, i, s)
		}
		sync(t, d)
		for range r.Intn(200) {
			i, s := r.Intn(16), block(r.Int())
			possible[i] = append(possible[i], s)
			write(t, d, i, s)
		}
		if r.Intn(2) == 0 {
			cut(t, d, 0, r.Uint64())
			checkErr(t, "the interrupted Sync", d.Sync(), api.ErrOff)
			d.Start()
		} else {
			failAndStart(d, r.Uint64())
		}
		for i := range 16 {
			if s, err := d.Read(i); err != api.OK || !slices.Contains(possible[i], s) {
				t.Fatalf("Read(%d) = %q, %d, which was never written to it", i, s, err)
			}
		}
	}
}

func TestWhatWasSyncedIsDurable(t *testing.T) {
	d := newDisk(t, 16)
	want := map[int]string{}
	for n := range 16 {
		want[n] = block(n)
		write(t, d, n, want[n])
		sync(t, d)
		for _, mask := range []uint64{0, 1, all} {
			failAndStart(d, mask)
			cut(t, d, 0, mask)
			checkErr(t, "the interrupted Sync", d.Sync(), api.ErrOff)
			d.Start()
			checkBlocks(t, d, want)
		}
	}
}
