package ring_test

import (
	"crypto/sha256"
	"encoding/binary"
	"encoding/hex"
	"math"
	"math/rand"
	"slices"
	"strconv"
	"strings"
	"testing"

	"chrysalis/api"
	"chrysalis/disk"
	"chrysalis/ring"
)

const (
	blockSize = 64
	slots     = 8
	sumSize   = 32
	bodySize  = 44
	checkEnd  = 52
	maxWord   = 1<<32 - 1
	all       = uint64(math.MaxUint64)
)

// masks preserve none of the first two pending writes, the first, the second, or both; the last mask preserves only a write far behind these.
var masks = []uint64{0, 1, 2, 3, all, all &^ 1, all &^ 2, all &^ 3, 1 << 63}

// sum returns a Sum, all bytes of which depend on n, and which no other n has.
func sum(n int) string {
	s := sha256.Sum256([]byte(strconv.Itoa(n)))
	return string(s[:])
}

// entry returns a valid entry with that number, whose other fields depend on it.
func entry(number int) ring.Entry {
	return ring.Entry{Kind: 1 + number%3, Number: number, Slot: number / 3 % 3, Size: number * 7919 % maxWord, Sum: sum(number)}
}

func numbered(e ring.Entry, number int) ring.Entry {
	e.Number = number
	return e
}

func entries(numbers ...int) []ring.Entry {
	var out []ring.Entry
	for _, n := range numbers {
		out = append(out, entry(n))
	}
	return out
}

// sealed returns the block that begins with body, as the chapter says, whether body is that of a valid entry or not.
func sealed(body string) string {
	check := sha256.Sum256([]byte(body))
	return body + string(check[:8]) + strings.Repeat("\x00", blockSize-checkEnd)
}

func body(mark string, kind, slot byte, number, size uint32, sum string) string {
	out := append([]byte(mark), kind, slot)
	out = binary.LittleEndian.AppendUint32(out, number)
	out = binary.LittleEndian.AppendUint32(out, size)
	return string(out) + sum
}

// blockOf computes the block of a valid entry without package ring.
func blockOf(e ring.Entry) string {
	return sealed(body("CJ", byte(e.Kind), byte(e.Slot), uint32(e.Number), uint32(e.Size), e.Sum))
}

func newDisk(t *testing.T, blocks int) *disk.Disk {
	t.Helper()
	d, err := disk.New(blocks)
	if d == nil || err != api.OK {
		t.Fatalf("New(%d) = %p, %d", blocks, d, err)
	}
	return d
}

func checkErr(t *testing.T, what string, got, want api.Errno) {
	t.Helper()
	if got != want {
		t.Fatalf("%s = %d; want %d", what, got, want)
	}
}

// put writes s to block i, durably.
func put(t *testing.T, d *disk.Disk, i int, s string) {
	t.Helper()
	checkErr(t, "Write to block "+strconv.Itoa(i), d.Write(i, s), api.OK)
	checkErr(t, "Sync", d.Sync(), api.OK)
}

// diskWith returns a disk with the entries of these numbers, each in the block that belongs to it.
func diskWith(t *testing.T, numbers ...int) *disk.Disk {
	t.Helper()
	d := newDisk(t, 16)
	for _, n := range numbers {
		put(t, d, n%slots, blockOf(entry(n)))
	}
	return d
}

// contents returns all blocks of a disk, as they are now.
func contents(t *testing.T, d *disk.Disk) []string {
	t.Helper()
	c := d.Copy()
	c.Start()
	out := make([]string, c.Blocks())
	for i := range out {
		s, err := c.Read(i)
		checkErr(t, "Read", err, api.OK)
		out[i] = s
	}
	return out
}

func checkBuild(t *testing.T, e ring.Entry, want string, wantErr api.Errno) {
	t.Helper()
	if s, err := ring.Build(e); s != want || err != wantErr {
		t.Errorf("Build(%#v) = %q, %d; want %q, %d", e, s, err, want, wantErr)
	}
}

func checkParse(t *testing.T, s string, want ring.Entry) {
	t.Helper()
	if e, ok := ring.Parse(s); e != want || !ok {
		t.Errorf("Parse(%q) = %#v, %v; want %#v", s, e, ok, want)
	}
}

func checkParsesNot(t *testing.T, s string) {
	t.Helper()
	if e, ok := ring.Parse(s); e != (ring.Entry{}) || ok {
		t.Errorf("Parse(%q) = %#v, %v; want no entry", s, e, ok)
	}
}

// checkJournal checks what Scan and Last find, and that they change nothing.
func checkJournal(t *testing.T, d *disk.Disk, want []ring.Entry) {
	t.Helper()
	ops, waits, before := d.Ops(), d.Waits(), contents(t, d)
	for range 2 {
		if got, err := ring.Scan(d); !slices.Equal(got, want) || err != api.OK {
			t.Fatalf("Scan = %#v, %d; want %#v", got, err, want)
		}
		checkLast(t, d, want)
	}
	if d.Ops() != ops || d.Waits() != waits || !slices.Equal(contents(t, d), before) {
		t.Fatalf("Scan or Last changed the disk")
	}
}

// checkLast checks that Last finds the last one of these entries.
func checkLast(t *testing.T, d *disk.Disk, found []ring.Entry) {
	t.Helper()
	var want ring.Entry
	if len(found) > 0 {
		want = found[len(found)-1]
	}
	if got, ok, err := ring.Last(d); got != want || ok != (len(found) > 0) || err != api.OK {
		t.Fatalf("Last = %#v, %v, %d; want %#v, %v", got, ok, err, want, len(found) > 0)
	}
}

func checkNoJournal(t *testing.T, d *disk.Disk, want api.Errno) {
	t.Helper()
	if got, err := ring.Scan(d); len(got) != 0 || err != want {
		t.Fatalf("Scan = %#v, %d; want %d", got, err, want)
	}
	if got, ok, err := ring.Last(d); got != (ring.Entry{}) || ok || err != want {
		t.Fatalf("Last = %#v, %v, %d; want %d", got, ok, err, want)
	}
}

// mustAppend appends e, which must be stored with the number want.
func mustAppend(t *testing.T, d *disk.Disk, e ring.Entry, want int) {
	t.Helper()
	if got, err := ring.Append(d, e); got != numbered(e, want) || err != api.OK {
		t.Fatalf("Append(%#v) = %#v, %d; want the number %d", e, got, err, want)
	}
}

func checkAppendErr(t *testing.T, d *disk.Disk, e ring.Entry, want api.Errno) {
	t.Helper()
	if got, err := ring.Append(d, e); got != (ring.Entry{}) || err != want {
		t.Fatalf("Append(%#v) = %#v, %d; want %d", e, got, err, want)
	}
}

// P5.1

func TestBuildIsTheChaptersBlock(t *testing.T) {
	e := ring.Entry{Kind: 2, Number: 0x04030201, Slot: 1, Size: 0x0d0c0b0a, Sum: strings.Repeat("ab", 16)}
	s, err := ring.Build(e)
	checkErr(t, "Build", err, api.OK)
	want := "434a" + "02" + "01" + "01020304" + "0a0b0c0d" + strings.Repeat("6162", 16) + "94cccf2f9b2735b2" + strings.Repeat("00", 12)
	if got := hex.EncodeToString([]byte(s)); got != want {
		t.Fatalf("Build = %s; want %s", got, want)
	}
	checkBuild(t, e, blockOf(e), api.OK)
	checkParse(t, blockOf(e), e)
}

// withField returns a valid entry in which f set one field.
func withField(f func(e *ring.Entry)) ring.Entry {
	e := entry(77)
	f(&e)
	return e
}

func validEntries() []ring.Entry {
	var out []ring.Entry
	for _, n := range []int{1, 2, 3} {
		out = append(out, withField(func(e *ring.Entry) { e.Kind = n }))
	}
	for _, n := range []int{1, 2, 7, 8, 255, 256, 1 << 16, 1 << 24, 1<<31 - 1, 1 << 31, maxWord - 1, maxWord} {
		out = append(out, withField(func(e *ring.Entry) { e.Number = n }))
	}
	for _, n := range []int{0, 1, 2} {
		out = append(out, withField(func(e *ring.Entry) { e.Slot = n }))
	}
	for _, n := range []int{0, 1, 255, 256, 1 << 16, 1 << 24, 1<<31 - 1, 1 << 31, maxWord - 1, maxWord} {
		out = append(out, withField(func(e *ring.Entry) { e.Size = n }))
	}
	for _, s := range []string{strings.Repeat("\x00", 32), strings.Repeat("\xff", 32), strings.Repeat("é", 16), strings.Repeat("x", 64)[5:37]} {
		out = append(out, withField(func(e *ring.Entry) { e.Sum = s }))
	}
	return append(out,
		ring.Entry{Kind: 1, Number: 1, Sum: strings.Repeat("\x00", 32)},
		ring.Entry{Kind: 3, Number: maxWord, Slot: 2, Size: maxWord, Sum: strings.Repeat("\xff", 32)})
}

// badFields returns entries with one field, other than Number, that makes them not valid.
func badFields() []ring.Entry {
	var out []ring.Entry
	for _, n := range []int{math.MinInt, -255, -1, 0, 4, 5, 255, 256, 257, 1 << 32, 1<<32 + 1, math.MaxInt} {
		out = append(out, withField(func(e *ring.Entry) { e.Kind = n }))
	}
	for _, n := range []int{math.MinInt, -256, -1, 3, 4, 255, 256, 257, 1 << 32, math.MaxInt} {
		out = append(out, withField(func(e *ring.Entry) { e.Slot = n }))
	}
	for _, n := range []int{math.MinInt, -1 << 32, -1, 1 << 32, 1<<32 + 1, math.MaxInt} {
		out = append(out, withField(func(e *ring.Entry) { e.Size = n }))
	}
	// The last one is 32 runes.
	for _, s := range []string{"", "x", sum(1)[:31], sum(1) + "\x00", sum(1) + sum(1), strings.Repeat("é", 32)} {
		out = append(out, withField(func(e *ring.Entry) { e.Sum = s }))
	}
	return append(out, ring.Entry{}, ring.Entry{Number: 1})
}

func badNumbers() []int {
	return []int{math.MinInt, -1 << 32, -8, -1, 0, 1 << 32, 1<<32 + 1, 1<<32 + 77, math.MaxInt}
}

func TestBuildAndParseOfValidEntries(t *testing.T) {
	for _, e := range validEntries() {
		checkBuild(t, e, blockOf(e), api.OK)
		checkParse(t, blockOf(e), e)
	}
}

func TestBuildRefusesEntriesThatAreNotValid(t *testing.T) {
	for _, e := range badFields() {
		checkBuild(t, e, "", api.ErrArg)
	}
	for _, n := range badNumbers() {
		checkBuild(t, numbered(entry(77), n), "", api.ErrArg)
	}
}

func TestParseOfOtherLengths(t *testing.T) {
	for _, e := range []ring.Entry{entry(1), {Kind: 1, Number: 1, Sum: strings.Repeat("\x00", 32)}} {
		s := blockOf(e)
		for size := range blockSize {
			checkParsesNot(t, s[:size])
			checkParsesNot(t, s[blockSize-size:])
		}
		checkParse(t, s, e)
		for _, more := range []string{"\x00", "x", strings.Repeat("\x00", blockSize), s} {
			checkParsesNot(t, s+more)
			checkParsesNot(t, more+s)
		}
	}
}

func TestParseOfWhatIsNoBlock(t *testing.T) {
	for _, c := range []string{"\x00", "\xff", "C", "CJ", "é"} {
		checkParsesNot(t, strings.Repeat(c, blockSize/len(c)))
	}
}

func TestParseOfABlockWithOneByteTurned(t *testing.T) {
	s := blockOf(entry(77))
	for i := range blockSize {
		for change := 1; change < 256; change++ {
			turned := []byte(s)
			turned[i] ^= byte(change)
			checkParsesNot(t, string(turned))
		}
	}
	checkParse(t, s, entry(77))
}

func TestParseOfBytesBehindTheChecksum(t *testing.T) {
	s := blockOf(entry(77))
	for size := 1; size <= blockSize-checkEnd; size++ {
		checkParsesNot(t, s[:checkEnd]+strings.Repeat("\x00", blockSize-checkEnd-size)+strings.Repeat("\x01", size))
	}
	whole := sha256.Sum256([]byte(s[:bodySize]))
	checkParsesNot(t, s[:bodySize]+string(whole[:blockSize-bodySize]))
}

// The checksums are right here.
func TestParseOfSealedBodiesOfNoEntry(t *testing.T) {
	checkParse(t, sealed(body("CJ", 1, 2, 3, 4, sum(5))), ring.Entry{Kind: 1, Number: 3, Slot: 2, Size: 4, Sum: sum(5)})
	for _, mark := range []string{"\x00\x00", "CK", "DJ", "JC", "cj", "Cj"} {
		checkParsesNot(t, sealed(body(mark, 1, 2, 3, 4, sum(5))))
	}
	for n := range 256 {
		if n < 1 || n > 3 {
			checkParsesNot(t, sealed(body("CJ", byte(n), 2, 3, 4, sum(5))))
		}
		if n > 2 {
			checkParsesNot(t, sealed(body("CJ", 1, byte(n), 3, 4, sum(5))))
		}
	}
	checkParsesNot(t, sealed(body("CJ", 1, 2, 0, 4, sum(5))))
}

func TestParseOfOtherChecksums(t *testing.T) {
	s := blockOf(entry(77))
	other := blockOf(entry(78))
	checkParsesNot(t, s[:bodySize]+other[bodySize:])
	checkParsesNot(t, s[:bodySize]+strings.Repeat("\x00", blockSize-bodySize))
	whole := sha256.Sum256([]byte(s[:bodySize]))
	checkParsesNot(t, s[:bodySize]+string(whole[24:])+s[checkEnd:])
}

// P5.2

func TestNoDisk(t *testing.T) {
	var zero disk.Disk
	for _, d := range []*disk.Disk{nil, &zero, new(disk.Disk)} {
		checkNoJournal(t, d, api.ErrNil)
		checkAppendErr(t, d, entry(1), api.ErrNil)
		checkAppendErr(t, d, ring.Entry{}, api.ErrNil)
	}
}

func TestAssignedDisk(t *testing.T) {
	d := diskWith(t, 1, 2)
	assigned := *d
	checkNoJournal(t, &assigned, api.ErrNil)
	checkAppendErr(t, &assigned, entry(1), api.ErrNil)
	checkJournal(t, d, entries(1, 2))
}

func TestNoPower(t *testing.T) {
	for _, d := range []*disk.Disk{newDisk(t, 16), diskWith(t, 1, 2), diskWith(t, maxWord)} {
		before, ops := contents(t, d), d.Ops()
		d.Fail(0)
		checkNoJournal(t, d, api.ErrOff)
		checkAppendErr(t, d, entry(1), api.ErrOff)
		checkAppendErr(t, d, ring.Entry{}, api.ErrOff)
		if d.On() || d.Ops() != ops || !slices.Equal(contents(t, d), before) {
			t.Fatalf("a disk without power was changed")
		}
	}
}

func TestEmptyJournal(t *testing.T) {
	for _, blocks := range []int{16, 17, 512} {
		checkJournal(t, newDisk(t, blocks), nil)
	}
}

func TestOneEntry(t *testing.T) {
	for _, n := range []int{1, 2, 3, 4, 5, 6, 7, 8, 9, 15, 16, 100, 1 << 31, maxWord - 1, maxWord} {
		checkJournal(t, diskWith(t, n), entries(n))
	}
}

// visitOrders calls visit with all orders of these numbers.
func visitOrders(numbers []int, visit func(order []int)) {
	var from func(k int)
	from = func(k int) {
		if k == len(numbers) {
			visit(numbers)
		}
		for i := k; i < len(numbers); i++ {
			numbers[k], numbers[i] = numbers[i], numbers[k]
			from(k + 1)
			numbers[k], numbers[i] = numbers[i], numbers[k]
		}
	}
	from(0)
}

// In block i is the entry that has the rank order[i] among all.
func TestEntriesAreInOrderWhateverTheOrderOfTheirBlocks(t *testing.T) {
	var ranked [slots][slots]ring.Entry
	var blocks [slots][slots]string
	for rank := range slots {
		for i := range slots {
			ranked[rank][i] = entry(slots*(rank+1) + i)
			blocks[rank][i] = blockOf(ranked[rank][i])
		}
	}
	d := newDisk(t, 16)
	visitOrders([]int{0, 1, 2, 3, 4, 5, 6, 7}, func(order []int) {
		want := make([]ring.Entry, slots)
		for i, rank := range order {
			want[rank] = ranked[rank][i]
			d.Write(i, blocks[rank][i])
		}
		d.Sync()
		if got, err := ring.Scan(d); !slices.Equal(got, want) || err != api.OK {
			t.Fatalf("Scan with the order %v = %#v, %d; want %#v", order, got, err, want)
		}
	})
}

// Every set of blocks has entries in turn. Those in the odd blocks are newer, so the entries are not in the order of their blocks.
func TestGaps(t *testing.T) {
	for set := range 1 << slots {
		var even, odd []int
		for i := range slots {
			if set>>i&1 == 1 && i%2 == 0 {
				even = append(even, 8+i)
			}
			if set>>i&1 == 1 && i%2 == 1 {
				odd = append(odd, 800+i)
			}
		}
		numbers := append(even, odd...)
		checkJournal(t, diskWith(t, numbers...), entries(numbers...))
	}
}

func TestNumbersWithLargeGaps(t *testing.T) {
	numbers := []int{3, 1 << 8, 1<<16 + 5, 1<<24 + 2, 1<<31 - 1, 1<<31 + 1, maxWord - 9, maxWord - 3}
	checkJournal(t, diskWith(t, numbers...), entries(numbers...))
}

func TestEntriesInBlocksThatDoNotBelongToTheirNumbers(t *testing.T) {
	for n := 8; n < 17; n++ {
		for i := range 16 {
			d := diskWith(t, 2, 5)
			var want []ring.Entry
			for _, old := range []int{2, 5} {
				if old != i {
					want = append(want, entry(old))
				}
			}
			if i == n%slots {
				want = append(want, entry(n))
			}
			put(t, d, i, blockOf(entry(n)))
			checkJournal(t, d, want)
		}
	}
}

func TestEveryEntryIsInTheWrongBlock(t *testing.T) {
	for shift := 1; shift < slots; shift++ {
		d := newDisk(t, 16)
		for n := range slots {
			put(t, d, (n+shift)%slots, blockOf(entry(n+slots)))
		}
		checkJournal(t, d, nil)
		mustAppend(t, d, entry(5), 1)
	}
}

func TestBlocksBehindTheJournal(t *testing.T) {
	for _, blocks := range []int{16, 17, 512} {
		d := newDisk(t, blocks)
		for i := slots; i < blocks; i++ {
			put(t, d, i, blockOf(entry(i)))
		}
		checkJournal(t, d, nil)
		put(t, d, 3, blockOf(entry(3)))
		checkJournal(t, d, entries(3))
	}
}

func TestBlocksOfNoEntry(t *testing.T) {
	for i, s := range []string{
		strings.Repeat("x", blockSize),
		sealed(body("CJ", 0, 0, 3, 0, sum(1))),
		sealed(body("CJ", 4, 0, 3, 0, sum(1))),
		sealed(body("CJ", 1, 3, 3, 0, sum(1))),
		sealed(body("CK", 1, 0, 3, 0, sum(1))),
		blockOf(entry(3))[:blockSize-1] + "x",
		"x" + blockOf(entry(3))[1:],
	} {
		d := diskWith(t, 1, 2, 3, 4)
		put(t, d, 3, s)
		checkJournal(t, d, entries(1, 2, 4))
		put(t, d, 0, sealed(body("CJ", 1, 0, 0, 0, sum(i))))
		checkJournal(t, d, entries(1, 2, 4))
	}
}

func TestScanReadsPendingWrites(t *testing.T) {
	d := diskWith(t, 1, 2, 3)
	checkErr(t, "Write", d.Write(2, blockOf(entry(10))), api.OK)
	checkErr(t, "Write", d.Write(1, strings.Repeat("x", blockSize)), api.OK)
	checkJournal(t, d, entries(3, 10))
	d.Fail(2)
	d.Start()
	checkJournal(t, d, entries(2, 3))
}

func TestScanReturnsNewMemory(t *testing.T) {
	d := diskWith(t, 1, 2, 3)
	one, _ := ring.Scan(d)
	two, _ := ring.Scan(d)
	clear(one[:cap(one)])
	if !slices.Equal(two, entries(1, 2, 3)) {
		t.Errorf("two lists that Scan returned share memory")
	}
	checkJournal(t, d, entries(1, 2, 3))
}

// P5.3

func TestChapterExample(t *testing.T) {
	d := newDisk(t, 16)
	checkJournal(t, d, nil)
	want := ring.Entry{Kind: 1, Number: 1, Slot: 0, Size: 5, Sum: sum(1)}
	mustAppend(t, d, ring.Entry{Kind: 1, Slot: 0, Size: 5, Sum: sum(1)}, 1)
	s, err := d.Read(1)
	if s != blockOf(want) || err != api.OK {
		t.Errorf("Read(1) = %q, %d; want the block of %#v", s, err, want)
	}
	checkJournal(t, d, []ring.Entry{want})
}

// checkStored checks that one block of the disk is now that of e, durably, and that the others are as before.
func checkStored(t *testing.T, d *disk.Disk, e ring.Entry, before []string) {
	t.Helper()
	want := slices.Clone(before)
	want[e.Number%slots] = blockOf(e)
	if d.Waits() != 0 || !slices.Equal(contents(t, d), want) {
		t.Fatalf("the entry %#v was not stored in its block alone", e)
	}
	c := d.Copy()
	c.Fail(0)
	if !slices.Equal(contents(t, c), want) {
		t.Fatalf("the entry %#v is not durable", e)
	}
}

// newest returns the entries of the last eight numbers up to this one: it and the seven before it.
func newest(number int) []ring.Entry {
	var out []ring.Entry
	for n := max(1, number-slots+1); n <= number; n++ {
		out = append(out, entry(n))
	}
	return out
}

func TestAppendManyTimes(t *testing.T) {
	for _, blocks := range []int{16, 17, 512} {
		d := newDisk(t, blocks)
		for n := 1; n <= 5*slots+3; n++ {
			before, ops := contents(t, d), d.Ops()
			mustAppend(t, d, numbered(entry(n), 0), n)
			checkStored(t, d, entry(n), before)
			if d.Ops() != ops+2 {
				t.Fatalf("Append took %d operations; want 2", d.Ops()-ops)
			}
			checkJournal(t, d, newest(n))
		}
	}
}

func TestAppendDoesNotHeedTheNumberOfItsEntry(t *testing.T) {
	for _, n := range append(badNumbers(), 1, 2, 5, 8, maxWord-1, maxWord) {
		d := newDisk(t, 16)
		mustAppend(t, d, numbered(entry(1), n), 1)
		mustAppend(t, d, numbered(entry(2), n), 2)
		checkJournal(t, d, entries(1, 2))
	}
}

func TestAppendOfTheSameEntryAgain(t *testing.T) {
	d := newDisk(t, 16)
	e := entry(5)
	var want []ring.Entry
	for n := 1; n <= slots; n++ {
		mustAppend(t, d, e, n)
		want = append(want, numbered(entry(5), n))
		checkJournal(t, d, want)
	}
}

func TestAppendOfEveryValidEntry(t *testing.T) {
	d := newDisk(t, 16)
	for i, e := range validEntries() {
		before := contents(t, d)
		mustAppend(t, d, e, i+1)
		checkStored(t, d, numbered(e, i+1), before)
	}
}

func TestAppendBehindAnyNumber(t *testing.T) {
	for _, n := range []int{1, 6, 7, 8, 254, 255, 256, 1<<16 - 1, 1<<24 - 1, 1<<31 - 1, 1 << 31, maxWord - 2, maxWord - 1} {
		d := diskWith(t, n)
		before := contents(t, d)
		mustAppend(t, d, entry(n+1), n+1)
		checkStored(t, d, entry(n+1), before)
		checkJournal(t, d, entries(n, n+1))
	}
}

func TestAppendBehindGaps(t *testing.T) {
	d := diskWith(t, 3, 1004, 90, 105)
	put(t, d, 0, blockOf(entry(2001)))
	mustAppend(t, d, entry(1005), 1005)
	checkJournal(t, d, entries(3, 90, 105, 1004, 1005))
	for n := 1006; n <= 1009; n++ {
		mustAppend(t, d, entry(n), n)
	}
	checkJournal(t, d, entries(3, 90, 1004, 1005, 1006, 1007, 1008, 1009))
}

// checkRefused checks that Append returns an error and changes nothing.
func checkRefused(t *testing.T, d *disk.Disk, e ring.Entry, want api.Errno) {
	t.Helper()
	before, ops, waits := contents(t, d), d.Ops(), d.Waits()
	checkAppendErr(t, d, e, want)
	if d.Ops() != ops || d.Waits() != waits || !slices.Equal(contents(t, d), before) {
		t.Fatalf("Append(%#v), which returned %d, changed the disk", e, want)
	}
}

func TestAppendAtTheGreatestNumber(t *testing.T) {
	d := diskWith(t, maxWord-2, maxWord-1)
	mustAppend(t, d, entry(maxWord), maxWord)
	checkJournal(t, d, entries(maxWord-2, maxWord-1, maxWord))
	for range 3 {
		for _, n := range []int{0, 1, 5, maxWord, maxWord + 1} {
			checkRefused(t, d, numbered(entry(5), n), api.ErrFull)
		}
	}
	checkJournal(t, d, entries(maxWord-2, maxWord-1, maxWord))
}

func TestAppendOfEntriesThatAreNotValid(t *testing.T) {
	for _, d := range []*disk.Disk{newDisk(t, 16), diskWith(t, 1, 2, 3), diskWith(t, maxWord-1)} {
		for _, e := range badFields() {
			checkRefused(t, d, e, api.ErrArg)
		}
	}
}

func TestTheFirstErrorThatApplies(t *testing.T) {
	for _, e := range badFields() {
		d := diskWith(t, maxWord)
		checkRefused(t, d, e, api.ErrFull)
		checkErr(t, "Cut", d.Cut(0, all), api.OK)
		checkRefused(t, d, e, api.ErrFull)
		checkRefused(t, d, entry(1), api.ErrFull)
		d.Fail(0)
		checkRefused(t, d, e, api.ErrOff)
		checkRefused(t, d, entry(1), api.ErrOff)
		checkAppendErr(t, nil, e, api.ErrNil)

		d = diskWith(t, 1)
		checkErr(t, "Cut", d.Cut(0, all), api.OK)
		checkRefused(t, d, e, api.ErrArg)
		checkAppendErr(t, d, entry(2), api.ErrOff)
		d.Start()
		checkJournal(t, d, entries(1, 2))
	}
}

// Power failures

// checkInterrupted checks an Append that is interrupted after k operations, behind that many pending writes.
func checkInterrupted(t *testing.T, number, k, waits int, mask uint64) {
	t.Helper()
	d := newDisk(t, 16)
	for n := 1; n < number; n++ {
		mustAppend(t, d, entry(n), n)
	}
	for range waits {
		checkErr(t, "Write", d.Write(10, strings.Repeat("x", blockSize)), api.OK)
	}
	ops := d.Ops()
	checkErr(t, "Cut", d.Cut(k, mask), api.OK)
	checkAppendErr(t, d, entry(number), api.ErrOff)
	if d.On() || d.Ops() != ops+k+1 {
		t.Fatalf("On, Ops = %v, %d; want a power failure after %d operations", d.On(), d.Ops(), ops+k+1)
	}
	checkNoJournal(t, d, api.ErrOff)
	checkAppendErr(t, d, entry(number), api.ErrOff)
	d.Start()
	last := number - 1
	if mask>>(waits%64)&1 == 1 {
		last = number
	}
	checkJournal(t, d, newest(last))
	mustAppend(t, d, entry(last+1), last+1)
	checkJournal(t, d, newest(last+1))
}

func TestAPowerFailureAtEachOperation(t *testing.T) {
	for _, number := range []int{1, 2, 7, 8, 9, 10, 16, 17, 30} {
		for k := range 2 {
			for waits := range 3 {
				for _, mask := range masks {
					checkInterrupted(t, number, k, waits, mask)
				}
			}
		}
	}
}

func TestAPowerFailureBehindManyPendingWrites(t *testing.T) {
	for _, waits := range []int{62, 63, 64, 65} {
		for k := range 2 {
			for _, mask := range append(masks, 1<<62) {
				checkInterrupted(t, 12, k, waits, mask)
			}
		}
	}
}

func TestAPowerFailureAfterTheLastOperation(t *testing.T) {
	for _, mask := range masks {
		d := newDisk(t, 16)
		checkErr(t, "Cut", d.Cut(2, mask), api.OK)
		mustAppend(t, d, entry(1), 1)
		checkAppendErr(t, d, entry(2), api.ErrOff)
		d.Start()
		want := entries(1, 2)
		if mask&1 == 0 {
			want = entries(1)
		}
		checkJournal(t, d, want)
	}
}

// P5.4

func TestParseOfBuildIsTheEntry(t *testing.T) {
	r := rand.New(rand.NewSource(1))
	for n := range 20000 {
		e := ring.Entry{Kind: 1 + r.Intn(3), Number: 1 + r.Intn(maxWord), Slot: r.Intn(3), Size: r.Intn(maxWord + 1), Sum: sum(n)}
		s, err := ring.Build(e)
		checkErr(t, "Build", err, api.OK)
		checkParse(t, s, e)
	}
}

func TestNoTwoEntriesHaveTheSameBlock(t *testing.T) {
	seen := map[string]ring.Entry{}
	for _, e := range validEntries() {
		s, _ := ring.Build(e)
		if other, ok := seen[s]; ok && other != e {
			t.Errorf("%#v and %#v have the same block", e, other)
		}
		seen[s] = e
	}
}

func TestAnEntryIsTheLastOneAfterEveryPowerFailure(t *testing.T) {
	d := newDisk(t, 16)
	for n := 1; n <= 3*slots; n++ {
		mustAppend(t, d, entry(n), n)
		for _, mask := range masks {
			d.Fail(mask)
			d.Start()
			checkJournal(t, d, newest(n))
			checkErr(t, "Cut", d.Cut(0, mask), api.OK)
			checkErr(t, "the interrupted Sync", d.Sync(), api.ErrOff)
			d.Start()
			checkJournal(t, d, newest(n))
		}
	}
}

// appendByChance appends entry(number), where the power may fail. It returns whether that is the last entry then, and what Append returned.
func appendByChance(t *testing.T, r *rand.Rand, d *disk.Disk, number int) (bool, api.Errno) {
	t.Helper()
	if r.Intn(2) == 0 {
		checkErr(t, "Cut", d.Cut(r.Intn(3), r.Uint64()), api.OK)
	}
	got, err := ring.Append(d, entry(number))
	if err == api.OK && got != entry(number) || err != api.OK && got != (ring.Entry{}) {
		t.Fatalf("Append = %#v, %d", got, err)
	}
	if r.Intn(4) == 0 {
		d.Fail(r.Uint64())
	}
	d.Start()
	last, _, lastErr := ring.Last(d)
	checkErr(t, "Last", lastErr, api.OK)
	return last == entry(number), err
}

func TestAppendsAndPowerFailuresByChance(t *testing.T) {
	for seed := range int64(50) {
		r := rand.New(rand.NewSource(seed))
		d := newDisk(t, 16)
		last := 0
		for range 100 {
			stored, err := appendByChance(t, r, d, last+1)
			if err == api.OK && !stored || err != api.OK && err != api.ErrOff {
				t.Fatalf("Append = %d, and its entry is the last one: %v", err, stored)
			}
			if stored {
				last++
			}
			checkJournal(t, d, newest(last))
		}
	}
}
