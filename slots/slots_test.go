package slots_test

import (
	"crypto/sha256"
	"math"
	"math/rand"
	"slices"
	"strconv"
	"strings"
	"testing"

	"chrysalis/api"
	"chrysalis/disk"
	"chrysalis/slots"
)

const (
	blockSize = 64
	journal   = 8
	maskBits  = 64
	all       = uint64(math.MaxUint64)
)

// sizes are numbers of blocks of a disk: the smallest and the greatest ones, with an even and with an odd number of blocks behind the journal's.
var sizes = []int{16, 17, 18, 19, 511, 512}

// masks preserve none of the first three pending writes, some, or all of them; the last mask preserves only a write far behind these.
var masks = []uint64{0, 1, 2, 3, 4, 5, 6, 7, all, all &^ 1, all &^ 2, all &^ 4, all / 3, 1 << 63}

// badSlots are numbers of no slot.
var badSlots = []int{math.MinInt, -256, -2, -1, 2, 3, 8, 256, 1 << 32, 1<<32 + 1, math.MaxInt}

// text returns a text without bytes 0, which depends on n everywhere.
func text(n, size int) string {
	out := make([]byte, 0, size+sha256.Size)
	for i := 0; len(out) < size; i++ {
		s := sha256.Sum256([]byte(strconv.Itoa(n) + " " + strconv.Itoa(i)))
		out = append(out, s[:]...)
	}
	for i, c := range out {
		out[i] = max(c, 1)
	}
	return string(out[:size])
}

// halfOf returns the number of blocks of a slot of a disk with so many blocks.
func halfOf(blocks int) int {
	return (blocks - journal - blocks%2) / 2
}

// lengths returns lengths of texts that a slot of so many blocks can hold, near all that is special.
func lengths(half int) []int {
	room := half * blockSize
	out := []int{0, 1, 2, 63, 64, 65, 127, 128, 129, room - 129, room - 128, room - 127, room - 65, room - 64, room - 63, room - 2, room - 1, room}
	slices.Sort(out)
	return slices.Compact(out)
}

// blocksOf returns the blocks that are filled by s, with bytes 0 behind it.
func blocksOf(s string) []string {
	var out []string
	for len(s) > blockSize {
		out, s = append(out, s[:blockSize]), s[blockSize:]
	}
	if s != "" {
		out = append(out, s+strings.Repeat("\x00", blockSize-len(s)))
	}
	return out
}

// overwritten returns what the blocks of a disk are when s was written into a slot of it.
func overwritten(before []string, slot int, s string) []string {
	out := slices.Clone(before)
	copy(out[journal+slot*halfOf(len(before)):], blocksOf(s))
	return out
}

// slotOf returns the bytes of a slot among the blocks of a disk.
func slotOf(blocks []string, slot int) string {
	half := halfOf(len(blocks))
	first := journal + slot*half
	return strings.Join(blocks[first:first+half], "")
}

func newDisk(t *testing.T, blocks int) *disk.Disk {
	t.Helper()
	d, err := disk.New(blocks)
	if d == nil || err != api.OK {
		t.Fatalf("New(%d) = %p, %d", blocks, d, err)
	}
	return d
}

// fullDisk returns a disk whose blocks are all durable, different, and without bytes 0.
func fullDisk(t *testing.T, blocks int) *disk.Disk {
	t.Helper()
	d := newDisk(t, blocks)
	for i := range blocks {
		checkErr(t, "disk.Write", d.Write(i, text(-1-i, blockSize)), api.OK)
	}
	checkErr(t, "Sync", d.Sync(), api.OK)
	return d
}

// noDisks returns what is no disk. Blocks of the last one can't be read, though it was copied from one that has some.
func noDisks(t *testing.T) []*disk.Disk {
	t.Helper()
	var zero disk.Disk
	assigned := *fullDisk(t, 16)
	return []*disk.Disk{nil, &zero, new(disk.Disk), &assigned}
}

// contents returns all blocks of a disk, as they are now.
func contents(t *testing.T, d *disk.Disk) []string {
	t.Helper()
	c := d.Copy()
	c.Start()
	out := make([]string, c.Blocks())
	for i := range out {
		s, err := c.Read(i)
		checkErr(t, "disk.Read", err, api.OK)
		out[i] = s
	}
	return out
}

// durable returns all blocks of a disk, as they are after a power failure in which all pending writes are lost.
func durable(t *testing.T, d *disk.Disk) []string {
	t.Helper()
	c := d.Copy()
	c.Fail(0)
	return contents(t, c)
}

// short returns the beginning of a text, for messages.
func short(s string) string {
	if len(s) <= 2*blockSize {
		return strconv.Quote(s)
	}
	return strconv.Quote(s[:blockSize]) + ".. of " + strconv.Itoa(len(s)) + " bytes"
}

func checkErr(t *testing.T, what string, got, want api.Errno) {
	t.Helper()
	if got != want {
		t.Fatalf("%s = %d; want %d", what, got, want)
	}
}

func checkContents(t *testing.T, d *disk.Disk, want []string) {
	t.Helper()
	got := contents(t, d)
	for i := range want {
		if got[i] != want[i] {
			t.Fatalf("block %d is %q; want %q", i, got[i], want[i])
		}
	}
}

// checkUnchanged checks that do changes nothing of a disk.
func checkUnchanged(t *testing.T, d *disk.Disk, do func()) {
	t.Helper()
	on, ops, waits, blocks, kept := d.On(), d.Ops(), d.Waits(), contents(t, d), durable(t, d)
	do()
	if d.On() != on || d.Ops() != ops || d.Waits() != waits {
		t.Fatalf("On, Ops, Waits = %v, %d, %d; want %v, %d, %d", d.On(), d.Ops(), d.Waits(), on, ops, waits)
	}
	checkContents(t, d, blocks)
	if !slices.Equal(durable(t, d), kept) {
		t.Fatalf("what is durable was changed")
	}
}

func checkRead(t *testing.T, d *disk.Disk, slot int, want string) {
	t.Helper()
	if got, err := slots.Read(d, slot, len(want)); got != want || err != api.OK {
		t.Fatalf("Read(%d, %d) = %s, %d; want %s", slot, len(want), short(got), err, short(want))
	}
}

func checkReadErr(t *testing.T, d *disk.Disk, slot, size int, want api.Errno) {
	t.Helper()
	if got, err := slots.Read(d, slot, size); got != "" || err != want {
		t.Fatalf("Read(%d, %d) = %s, %d; want %d", slot, size, short(got), err, want)
	}
}

func checkWriteErr(t *testing.T, d *disk.Disk, slot int, s string, want api.Errno) {
	t.Helper()
	if err := slots.Write(d, slot, s); err != want {
		t.Fatalf("Write(%d, %s) = %d; want %d", slot, short(s), err, want)
	}
}

// mustWrite writes s into a slot, and checks that this changes the blocks that it needs, durably, and no others.
func mustWrite(t *testing.T, d *disk.Disk, slot int, s string) {
	t.Helper()
	ops, want := d.Ops(), overwritten(contents(t, d), slot, s)
	checkWriteErr(t, d, slot, s, api.OK)
	if n := d.Ops() - ops; n != len(blocksOf(s))+1 {
		t.Fatalf("Write(%d, %s) took %d operations; want %d", slot, short(s), n, len(blocksOf(s))+1)
	}
	if !d.On() || d.Waits() != 0 {
		t.Fatalf("On, Waits = %v, %d", d.On(), d.Waits())
	}
	checkContents(t, d, want)
	if !slices.Equal(durable(t, d), want) {
		t.Fatalf("Write(%d, %s) is not durable", slot, short(s))
	}
	checkRead(t, d, slot, s)
}

func TestChapterExample(t *testing.T) {
	d := newDisk(t, 16)
	if n := slots.Room(d); n != 256 {
		t.Errorf("Room = %d; want 256", n)
	}
	checkErr(t, "Write", slots.Write(d, 1, "ab"), api.OK)
	for i := range d.Blocks() {
		want := strings.Repeat("\x00", blockSize)
		if i == 12 {
			want = "ab" + strings.Repeat("\x00", blockSize-2)
		}
		if s, err := d.Read(i); s != want || err != api.OK {
			t.Errorf("block %d is %q, %d; want %q", i, s, err, want)
		}
	}
	if s, err := slots.Read(d, 1, 2); s != "ab" || err != api.OK {
		t.Errorf("Read = %q, %d; want ab", s, err)
	}
}

// P6.1

func checkRoom(t *testing.T, d *disk.Disk, want int) {
	t.Helper()
	if n := slots.Room(d); n != want {
		t.Fatalf("Room of a disk of %d blocks = %d; want %d", d.Blocks(), n, want)
	}
}

func TestRoomOfNoDisk(t *testing.T) {
	for _, d := range noDisks(t) {
		checkRoom(t, d, 0)
	}
}

func TestRoom(t *testing.T) {
	for blocks, want := range map[int]int{16: 256, 17: 256, 18: 320, 19: 320, 20: 384, 100: 2944, 101: 2944, 511: 16064, 512: 16128} {
		checkRoom(t, newDisk(t, blocks), want)
	}
	for blocks := 16; blocks <= 512; blocks++ {
		checkRoom(t, newDisk(t, blocks), halfOf(blocks)*blockSize)
	}
}

func TestRoomStaysTheSame(t *testing.T) {
	d := fullDisk(t, 17)
	checkErr(t, "disk.Write", d.Write(9, text(1, blockSize)), api.OK)
	checkErr(t, "Cut", d.Cut(2, all), api.OK)
	checkUnchanged(t, d, func() { checkRoom(t, d, 256) })
	checkErr(t, "Write", slots.Write(d, 0, text(2, 100)), api.ErrOff)
	checkUnchanged(t, d, func() { checkRoom(t, d, 256) })
	checkRoom(t, d.Copy(), 256)
	d.Start()
	mustWrite(t, d, 1, text(3, 256))
	checkRoom(t, d, 256)
}

// P6.2

func TestNoDiskHasNoSlots(t *testing.T) {
	for _, d := range noDisks(t) {
		for _, slot := range append(badSlots, 0, 1) {
			for _, size := range []int{0, 1, 64, 256, 257, 20000} {
				checkWriteErr(t, d, slot, text(1, size), api.ErrNil)
			}
			for _, size := range []int{math.MinInt, -1, 0, 1, 64, 256, 257, 20000, math.MaxInt} {
				checkReadErr(t, d, slot, size, api.ErrNil)
			}
		}
	}
}

func TestACopyHasSlots(t *testing.T) {
	d := newDisk(t, 16)
	mustWrite(t, d, 0, "ab")
	c := d.Copy()
	checkRead(t, c, 0, "ab")
	mustWrite(t, c, 0, "xyz")
	checkRead(t, d, 0, "ab\x00")
}

func TestWriteAndReadOfNoSlot(t *testing.T) {
	for _, blocks := range sizes {
		d := fullDisk(t, blocks)
		room := slots.Room(d)
		checkUnchanged(t, d, func() {
			for _, slot := range badSlots {
				for _, size := range []int{0, 1, 64, room, room + 1} {
					checkWriteErr(t, d, slot, text(1, size), api.ErrArg)
					checkReadErr(t, d, slot, size, api.ErrArg)
				}
				checkReadErr(t, d, slot, -1, api.ErrArg)
			}
		})
	}
}

// The blocks of a full disk show which ones were written, and that bytes 0 are behind the text.
func TestWriteOfAllLengths(t *testing.T) {
	for _, blocks := range sizes {
		for slot := range 2 {
			for n, size := range lengths(halfOf(blocks)) {
				mustWrite(t, fullDisk(t, blocks), slot, text(n, size))
			}
		}
	}
	for slot := range 2 {
		for size := range 256 + 1 {
			mustWrite(t, fullDisk(t, 16), slot, text(size, size))
		}
	}
}

func TestWriteOfTooLongTexts(t *testing.T) {
	for _, blocks := range sizes {
		d := fullDisk(t, blocks)
		room := slots.Room(d)
		checkUnchanged(t, d, func() {
			for slot := range 2 {
				for _, size := range []int{room + 1, room + 2, room + 63, room + 64, room + 65, 2 * room, 2*room + 1, 3 * room} {
					checkWriteErr(t, d, slot, text(1, size), api.ErrFull)
				}
			}
		})
		for slot := range 2 {
			mustWrite(t, d, slot, text(2, room))
		}
	}
}

// The slot is full when all of these runes were counted by their bytes.
func TestTextsAreCountedByBytes(t *testing.T) {
	d := fullDisk(t, 16)
	mustWrite(t, d, 0, strings.Repeat("é", 128))
	checkUnchanged(t, d, func() { checkWriteErr(t, d, 0, strings.Repeat("é", 129), api.ErrFull) })
}

func TestWriteOfAllBytes(t *testing.T) {
	var every strings.Builder
	for c := range 256 {
		every.WriteByte(byte(c))
	}
	for _, s := range []string{
		every.String(), "\x00", "\xff", "x\x00", "\x00x", strings.Repeat("\x00", 64), strings.Repeat("\x00", 65),
		strings.Repeat("\xff", 100), strings.Repeat("\x80", 256), strings.Repeat("é", 40), strings.Repeat("é", 40)[1:], text(1, 300)[7:107],
	} {
		for slot := range 2 {
			mustWrite(t, fullDisk(t, 16), slot, s)
			mustWrite(t, newDisk(t, 16), slot, s)
		}
	}
}

// Of a longer text before, what is in further blocks remains, and what is in the last block of the new one does not.
func TestWriteAfterWrite(t *testing.T) {
	for slot := range 2 {
		d := fullDisk(t, 17)
		for n, size := range []int{256, 255, 192, 130, 129, 128, 127, 65, 64, 63, 1, 0, 2, 0, 64, 200, 0, 256, 256} {
			before := slotOf(contents(t, d), slot)
			mustWrite(t, d, slot, text(n, size))
			end := (size + blockSize - 1) / blockSize * blockSize
			checkRead(t, d, slot, text(n, size)+strings.Repeat("\x00", end-size)+before[end:])
		}
	}
}

func TestWriteSyncsWhatWasPending(t *testing.T) {
	for _, s := range []string{"", "x", text(1, 256)} {
		d := fullDisk(t, 16)
		for _, i := range []int{0, 7, 12, 15, 12} {
			checkErr(t, "disk.Write", d.Write(i, text(i, blockSize)), api.OK)
		}
		mustWrite(t, d, 0, s)
	}
}

func TestWriteOverwritesWhatWasPending(t *testing.T) {
	d := fullDisk(t, 16)
	for i := range 16 {
		checkErr(t, "disk.Write", d.Write(i, text(i, blockSize)), api.OK)
	}
	mustWrite(t, d, 0, text(100, 100))
	mustWrite(t, d, 1, text(101, 101))
}

// afterFailure returns the blocks of a disk, which had no pending writes, after a Write that was interrupted after k operations.
func afterFailure(before []string, slot int, s string, k int, mask uint64) []string {
	out := slices.Clone(before)
	first := journal + slot*halfOf(len(before))
	for i, block := range blocksOf(s) {
		if i <= k && mask>>(i%maskBits)&1 == 1 {
			out[first+i] = block
		}
	}
	return out
}

// checkInterrupted checks a Write that is interrupted after k operations, on a disk without pending writes.
func checkInterrupted(t *testing.T, d *disk.Disk, slot int, s string, k int, mask uint64) {
	t.Helper()
	ops, want := d.Ops(), afterFailure(contents(t, d), slot, s, k, mask)
	checkErr(t, "Cut", d.Cut(k, mask), api.OK)
	checkWriteErr(t, d, slot, s, api.ErrOff)
	if d.On() || d.Ops() != ops+k+1 || d.Waits() != 0 {
		t.Fatalf("On, Ops, Waits = %v, %d, %d; want a power failure after %d operations", d.On(), d.Ops(), d.Waits(), ops+k+1)
	}
	checkContents(t, d, want)
}

// A mask of one bit shows which block is written by which operation.
func TestBlocksAreWrittenInTheirOrder(t *testing.T) {
	for slot := range 2 {
		for _, size := range []int{0, 1, 64, 65, 200, 256} {
			s := text(size, size)
			for k := range len(blocksOf(s)) + 1 {
				for i := range k + 2 {
					checkInterrupted(t, fullDisk(t, 16), slot, s, k, 1<<i)
					checkInterrupted(t, fullDisk(t, 16), slot, s, k, all&^(1<<i))
				}
			}
		}
	}
}

func TestAWriteOfManyBlocksIsInterrupted(t *testing.T) {
	r := rand.New(rand.NewSource(1))
	for _, blocks := range []int{511, 512} {
		for slot := range 2 {
			s := text(slot, halfOf(blocks)*blockSize-5)
			for _, k := range []int{0, 1, 62, 63, 64, 65, 127, 128, 200, halfOf(blocks) - 1, halfOf(blocks)} {
				checkInterrupted(t, fullDisk(t, blocks), slot, s, k, r.Uint64())
				checkInterrupted(t, fullDisk(t, blocks), slot, s, k, all)
			}
		}
	}
}

func TestAPowerFailureAfterTheLastOperation(t *testing.T) {
	for _, size := range []int{0, 1, 65, 256} {
		d := fullDisk(t, 16)
		s := text(1, size)
		checkErr(t, "Cut", d.Cut(len(blocksOf(s))+1, 0), api.OK)
		ops, want := d.Ops(), overwritten(contents(t, d), 1, s)
		checkWriteErr(t, d, 1, s, api.OK)
		checkErr(t, "the interrupted Sync", d.Sync(), api.ErrOff)
		if d.Ops() != ops+len(blocksOf(s))+2 {
			t.Fatalf("Write took %d operations; want %d", d.Ops()-ops-1, len(blocksOf(s))+1)
		}
		checkContents(t, d, want)
	}
}

// No operation takes place when an error is returned before, so the planned power failure is still to come.
func TestWhatIsRefusedIsNoOperation(t *testing.T) {
	d := fullDisk(t, 16)
	checkErr(t, "Cut", d.Cut(0, all), api.OK)
	checkUnchanged(t, d, func() {
		for _, slot := range badSlots {
			checkWriteErr(t, d, slot, "", api.ErrArg)
			checkWriteErr(t, d, slot, text(1, 257), api.ErrArg)
			checkReadErr(t, d, slot, 0, api.ErrArg)
		}
		for slot := range 2 {
			checkWriteErr(t, d, slot, text(1, 257), api.ErrFull)
			checkReadErr(t, d, slot, 257, api.ErrArg)
			checkRead(t, d, slot, "")
			checkRead(t, d, slot, slotOf(contents(t, d), slot))
		}
	})
	checkWriteErr(t, d, 0, "", api.ErrOff)
}

// Without power, the arguments are examined all the same, and what reads no block needs none.
func TestNoPower(t *testing.T) {
	for _, blocks := range sizes {
		d := fullDisk(t, blocks)
		room := slots.Room(d)
		d.Fail(0)
		checkUnchanged(t, d, func() {
			for slot := range 2 {
				for n, size := range lengths(halfOf(blocks)) {
					checkWriteErr(t, d, slot, text(n, size), api.ErrOff)
				}
				checkWriteErr(t, d, slot, text(1, room+1), api.ErrFull)
				for _, size := range []int{1, 2, 63, 64, 65, room - 64, room - 1, room} {
					checkReadErr(t, d, slot, size, api.ErrOff)
				}
				checkRead(t, d, slot, "")
				checkReadErr(t, d, slot, -1, api.ErrArg)
				checkReadErr(t, d, slot, room+1, api.ErrArg)
			}
			for _, slot := range badSlots {
				checkWriteErr(t, d, slot, "", api.ErrArg)
				checkWriteErr(t, d, slot, "x", api.ErrArg)
				checkWriteErr(t, d, slot, text(1, room+1), api.ErrArg)
				checkReadErr(t, d, slot, 0, api.ErrArg)
				checkReadErr(t, d, slot, 1, api.ErrArg)
			}
		})
		d.Start()
		mustWrite(t, d, 0, text(1, room))
	}
}

// P6.3

func TestReadOfAllSizes(t *testing.T) {
	for _, blocks := range sizes {
		d := fullDisk(t, blocks)
		for slot := range 2 {
			whole := slotOf(contents(t, d), slot)
			for _, size := range lengths(halfOf(blocks)) {
				checkUnchanged(t, d, func() { checkRead(t, d, slot, whole[:size]) })
			}
		}
	}
	d := fullDisk(t, 16)
	for slot := range 2 {
		whole := slotOf(contents(t, d), slot)
		for size := range 256 + 1 {
			checkRead(t, d, slot, whole[:size])
		}
	}
}

func TestReadOfOtherSizes(t *testing.T) {
	for _, blocks := range sizes {
		d := fullDisk(t, blocks)
		room := slots.Room(d)
		checkUnchanged(t, d, func() {
			for slot := range 2 {
				for _, size := range []int{math.MinInt, math.MinInt + 1, -1 << 32, -room, -64, -1, room + 1, room + 2, room + 64, 2 * room, 1 << 32, math.MaxInt - 63, math.MaxInt - 62, math.MaxInt} {
					checkReadErr(t, d, slot, size, api.ErrArg)
				}
			}
		})
	}
}

func TestReadOfANewDisk(t *testing.T) {
	for _, blocks := range sizes {
		d := newDisk(t, blocks)
		for slot := range 2 {
			for _, size := range lengths(halfOf(blocks)) {
				checkRead(t, d, slot, strings.Repeat("\x00", size))
			}
		}
	}
}

func TestReadOfPendingWrites(t *testing.T) {
	d := fullDisk(t, 16)
	for _, i := range []int{9, 10, 12, 15} {
		checkErr(t, "disk.Write", d.Write(i, text(i, blockSize)), api.OK)
	}
	for slot := range 2 {
		whole := slotOf(contents(t, d), slot)
		for _, size := range lengths(4) {
			checkUnchanged(t, d, func() { checkRead(t, d, slot, whole[:size]) })
		}
	}
	d.Fail(0)
	d.Start()
	for slot := range 2 {
		checkRead(t, d, slot, slotOf(contents(t, d), slot))
	}
}

func TestReadOfMoreThanWasWritten(t *testing.T) {
	d := fullDisk(t, 16)
	old := slotOf(contents(t, d), 1)
	mustWrite(t, d, 1, "abc")
	checkRead(t, d, 1, "ab")
	checkRead(t, d, 1, "abc"+strings.Repeat("\x00", 61))
	checkRead(t, d, 1, "abc"+strings.Repeat("\x00", 61)+old[64:])
}

// P6.4

func TestWhatWasWrittenIsDurableWhateverFails(t *testing.T) {
	for _, blocks := range []int{16, 17, 64} {
		for slot := range 2 {
			for n, size := range lengths(halfOf(blocks)) {
				d := fullDisk(t, blocks)
				s := text(n, size)
				mustWrite(t, d, slot, s)
				want := contents(t, d)
				for _, mask := range masks {
					d.Fail(mask)
					d.Start()
					checkRead(t, d, slot, s)
					checkErr(t, "Cut", d.Cut(0, mask), api.OK)
					checkErr(t, "the interrupted Sync", d.Sync(), api.ErrOff)
					d.Start()
					checkRead(t, d, slot, s)
				}
				checkContents(t, d, want)
			}
		}
	}
}

// What checkInterrupted wants contains the blocks of the journal and of the other slot as they were, too.
func TestAPowerFailureAtEachOperation(t *testing.T) {
	for _, blocks := range []int{16, 17, 18} {
		for slot := range 2 {
			for n, size := range lengths(halfOf(blocks)) {
				kept, s := text(2*n, size), text(2*n+1, size)
				for k := range len(blocksOf(s)) + 1 {
					for _, mask := range masks {
						d := fullDisk(t, blocks)
						mustWrite(t, d, 1-slot, kept)
						checkInterrupted(t, d, slot, s, k, mask)
						checkReadErr(t, d, 1-slot, 1, api.ErrOff)
						d.Start()
						checkRead(t, d, 1-slot, kept)
						mustWrite(t, d, slot, s)
						checkRead(t, d, 1-slot, kept)
					}
				}
			}
		}
	}
}

func TestSlotsAreApart(t *testing.T) {
	for _, blocks := range sizes {
		d := fullDisk(t, blocks)
		before := contents(t, d)
		room := slots.Room(d)
		for n := range 4 {
			mustWrite(t, d, n%2, text(n, room-n))
		}
		checkRead(t, d, 0, text(2, room-2))
		checkRead(t, d, 1, text(3, room-3))
		after := contents(t, d)
		end := journal + 2*halfOf(blocks)
		if !slices.Equal(after[:journal], before[:journal]) || !slices.Equal(after[end:], before[end:]) {
			t.Fatalf("blocks outside of the slots of a disk of %d blocks were changed", blocks)
		}
	}
}

// writeByChance writes a text by chance into a slot of d, where the power may fail. It returns what was written, if that is certain.
func writeByChance(t *testing.T, r *rand.Rand, d *disk.Disk, slot int) (string, bool) {
	t.Helper()
	s := text(r.Int(), r.Intn(slots.Room(d)+1))
	before := contents(t, d)
	if r.Intn(2) == 0 {
		checkErr(t, "Cut", d.Cut(r.Intn(halfOf(d.Blocks())+3), r.Uint64()), api.OK)
	}
	err := slots.Write(d, slot, s)
	if err != api.OK && (err != api.ErrOff || d.On()) {
		t.Fatalf("Write(%d, %s) = %d", slot, short(s), err)
	}
	if r.Intn(4) == 0 {
		d.Fail(r.Uint64())
	}
	d.Start()
	after := contents(t, d)
	written := overwritten(before, slot, s)
	for i := range after {
		if after[i] != written[i] && (after[i] != before[i] || err == api.OK) {
			t.Fatalf("block %d is %q; it was %q, and %q was written, with the error %d", i, after[i], before[i], written[i], err)
		}
	}
	return s, err == api.OK
}

func TestWritesAndPowerFailuresByChance(t *testing.T) {
	for seed := range int64(30) {
		r := rand.New(rand.NewSource(seed))
		d := fullDisk(t, 16+r.Intn(10))
		kept, certain := [2]string{}, [2]bool{true, true}
		for range 100 {
			slot := r.Intn(2)
			kept[slot], certain[slot] = writeByChance(t, r, d, slot)
			for slot, s := range kept {
				if certain[slot] {
					checkRead(t, d, slot, s)
				}
			}
		}
	}
}

func TestDisksAreIndependent(t *testing.T) {
	one, two := fullDisk(t, 16), fullDisk(t, 18)
	checkUnchanged(t, two, func() { mustWrite(t, one, 0, text(1, 256)) })
	checkUnchanged(t, one, func() { mustWrite(t, two, 0, text(2, 320)) })
	checkRead(t, one, 0, text(1, 256))
	checkRead(t, two, 0, text(2, 320))
}
