package store_test

import (
	"crypto/sha256"
	"math"
	"math/rand"
	"slices"
	"strconv"
	"strings"
	"testing"

	"chrysalis/api"
	"chrysalis/disk"
	"chrysalis/ring"
	"chrysalis/slots"
	"chrysalis/store"
)

const (
	blockSize = 64
	journal   = 8
	room      = 256 // of a slot of a disk of 16 blocks
	maxNumber = 1<<32 - 1
	all       = uint64(math.MaxUint64)
)

// masks preserve none of the first three pending writes, some, or all of them.
var masks = []uint64{0, 1, 2, 3, 4, 5, 6, 7, all, all &^ 1, all &^ 2, all / 3, 1 << 63}

// noSum is the Sum of an entry that says that nothing is committed.
var noSum = strings.Repeat("\x00", 32)

// text returns a text which depends on n everywhere.
func text(n, size int) string {
	var out []byte
	for i := 0; len(out) < size; i++ {
		s := sha256.Sum256([]byte(strconv.Itoa(n) + " " + strconv.Itoa(i)))
		out = append(out, s[:]...)
	}
	return string(out[:size])
}

func sum(s string) string {
	d := sha256.Sum256([]byte(s))
	return string(d[:])
}

func checkErr(t *testing.T, what string, got, want api.Errno) {
	t.Helper()
	if got != want {
		t.Fatalf("%s = %d; want %d", what, got, want)
	}
}

func newDisk(t *testing.T, blocks int) *disk.Disk {
	t.Helper()
	d, err := disk.New(blocks)
	checkErr(t, "disk.New", err, api.OK)
	return d
}

func open(t *testing.T, d *disk.Disk) *store.Store {
	t.Helper()
	s, err := store.Open(d)
	if s == nil || err != api.OK {
		t.Fatalf("Open = %p, %d", s, err)
	}
	return s
}

// committed returns a store, on a new disk of 16 blocks, in which these texts were committed one after the other.
func committed(t *testing.T, texts ...string) (*store.Store, *disk.Disk) {
	t.Helper()
	d := newDisk(t, 16)
	s := open(t, d)
	for _, text := range texts {
		mustCommit(t, s, text)
	}
	return s, d
}

func mustPrepare(t *testing.T, s *store.Store, text string) {
	t.Helper()
	checkErr(t, "Prepare", s.Prepare(text), api.OK)
	checkWaits(t, s, true)
}

func mustCommit(t *testing.T, s *store.Store, text string) {
	t.Helper()
	mustPrepare(t, s, text)
	checkErr(t, "Commit", s.Commit(), api.OK)
	checkText(t, s, text)
	checkOdd(t, s, false)
	checkWaits(t, s, false)
}

func checkText(t *testing.T, s *store.Store, want string) {
	t.Helper()
	if got, ok := s.Text(); got != want || !ok {
		t.Fatalf("Text = %q, %v; want %q", got, ok, want)
	}
}

func checkNoText(t *testing.T, s *store.Store) {
	t.Helper()
	if got, ok := s.Text(); got != "" || ok {
		t.Fatalf("Text = %q, %v; want none", got, ok)
	}
}

func checkOdd(t *testing.T, s *store.Store, want bool) {
	t.Helper()
	if s.Odd() != want {
		t.Fatalf("Odd = %v", s.Odd())
	}
}

func checkWaits(t *testing.T, s *store.Store, want bool) {
	t.Helper()
	if s.Waits() != want {
		t.Fatalf("Waits = %v", s.Waits())
	}
}

// checkNew checks a store in which nothing is committed or pending.
func checkNew(t *testing.T, s *store.Store, odd bool) {
	t.Helper()
	checkNoText(t, s)
	checkOdd(t, s, odd)
	checkWaits(t, s, false)
	checkErr(t, "Commit", s.Commit(), api.ErrNone)
	checkErr(t, "Drop", s.Drop(), api.ErrNone)
}

// checkLast checks the last entry of the journal, except for its number.
func checkLast(t *testing.T, d *disk.Disk, want ring.Entry) {
	t.Helper()
	got, found, err := ring.Last(d)
	want.Number = got.Number
	if !found || err != api.OK || got != want {
		t.Fatalf("the last entry is %+v, %v, %d; want %+v", got, found, err, want)
	}
}

func checkSlot(t *testing.T, d *disk.Disk, slot int, want string) {
	t.Helper()
	if got, err := slots.Read(d, slot, len(want)); got != want || err != api.OK {
		t.Fatalf("slot %d has %q, %d; want %q", slot, got, err, want)
	}
}

// contents returns all blocks of a disk, as they are now.
func contents(t *testing.T, d *disk.Disk) []string {
	t.Helper()
	c := d.Copy()
	c.Start()
	out := make([]string, c.Blocks())
	for i := range out {
		s, err := c.Read(i)
		checkErr(t, "disk.Read", err, api.OK)
		out[i] = s
	}
	return out
}

// checkUnchanged checks that do changes nothing of a disk.
func checkUnchanged(t *testing.T, d *disk.Disk, do func()) {
	t.Helper()
	on, ops, waits, blocks := d.On(), d.Ops(), d.Waits(), contents(t, d)
	do()
	if d.On() != on || d.Ops() != ops || d.Waits() != waits || !slices.Equal(contents(t, d), blocks) {
		t.Fatalf("the disk was changed")
	}
}

// checkOps checks the number of operations that do takes.
func checkOps(t *testing.T, d *disk.Disk, want int, do func()) {
	t.Helper()
	ops := d.Ops()
	do()
	if n := d.Ops() - ops; n != want {
		t.Fatalf("%d operations; want %d", n, want)
	}
}

// blocksFor is the number of blocks of a text.
func blocksFor(size int) int {
	return (size + blockSize - 1) / blockSize
}

func TestChapterExample(t *testing.T) {
	d := newDisk(t, 16)
	s := open(t, d)
	checkNoText(t, s)
	checkErr(t, "Prepare", s.Prepare("a"), api.OK)
	checkErr(t, "Commit", s.Commit(), api.OK)
	checkText(t, s, "a")
	checkErr(t, "Prepare", s.Prepare("b"), api.OK)
	d.Fail(0)
	d.Start()
	checkText(t, open(t, d), "a")
}

func TestConstants(t *testing.T) {
	got := []int{store.Prepared, store.Committed, store.Dropped, store.NoSlot}
	if !slices.Equal(got, []int{1, 2, 3, 2}) {
		t.Errorf("the constants are %v", got)
	}
}

// noStores returns what is no store, also copies by assignment of one with a committed and a pending text.
func noStores(t *testing.T) []*store.Store {
	t.Helper()
	s, _ := committed(t, "a")
	mustPrepare(t, s, "b")
	var zero store.Store
	assigned := *s
	overwritten := open(t, newDisk(t, 16))
	*overwritten = *s
	return []*store.Store{nil, &zero, new(store.Store), &assigned, overwritten}
}

func TestMethodsOfNoStore(t *testing.T) {
	for _, s := range noStores(t) {
		for range 2 {
			checkNoText(t, s)
			checkOdd(t, s, false)
			checkWaits(t, s, false)
			for _, text := range []string{"", "a", text(1, room+1), text(1, 20000)} {
				checkErr(t, "Prepare", s.Prepare(text), api.ErrNil)
			}
			checkErr(t, "Commit", s.Commit(), api.ErrNil)
			checkErr(t, "Drop", s.Drop(), api.ErrNil)
			if c := s.Copy(newDisk(t, 16)); c != nil {
				t.Fatalf("Copy = %p; want nil", c)
			}
			if c := s.Copy(nil); c != nil {
				t.Fatalf("Copy = %p; want nil", c)
			}
		}
	}
}

// The disk of an odd store tells by itself that a copy by assignment is not odd only because it is no store.
func TestACopyByAssignmentIsNotOdd(t *testing.T) {
	d := newDisk(t, 16)
	mustAppend(t, d, ring.Entry{Kind: 2, Slot: 0, Size: 1, Sum: noSum})
	s := open(t, d)
	checkOdd(t, s, true)
	assigned := *s
	checkOdd(t, &assigned, false)
}

func TestMethodsOfNoStoreLeaveTheDiskAlone(t *testing.T) {
	s, d := committed(t, "a")
	mustPrepare(t, s, "b")
	assigned := *s
	checkUnchanged(t, d, func() {
		checkErr(t, "Prepare", assigned.Prepare("c"), api.ErrNil)
		checkErr(t, "Commit", assigned.Commit(), api.ErrNil)
		checkErr(t, "Drop", assigned.Drop(), api.ErrNil)
	})
	checkErr(t, "Commit", s.Commit(), api.OK)
	checkText(t, s, "b")
}

// P7.1

func checkOpenErr(t *testing.T, d *disk.Disk, want api.Errno) {
	t.Helper()
	if s, err := store.Open(d); s != nil || err != want {
		t.Fatalf("Open = %p, %d; want nil, %d", s, err, want)
	}
}

func TestOpenOfNoDisk(t *testing.T) {
	var zero disk.Disk
	_, d := committed(t, "a")
	assigned := *d
	for _, d := range []*disk.Disk{nil, &zero, &assigned} {
		checkOpenErr(t, d, api.ErrNil)
	}
}

func TestOpenOfANewDisk(t *testing.T) {
	for _, blocks := range []int{16, 17, 511, 512} {
		d := newDisk(t, blocks)
		checkUnchanged(t, d, func() { checkNew(t, open(t, d), false) })
	}
}

func TestOpenWithoutPower(t *testing.T) {
	d := newDisk(t, 16)
	d.Fail(0)
	checkUnchanged(t, d, func() { checkOpenErr(t, d, api.ErrOff) })
	for _, a := range []string{"", "a", text(1, room)} {
		_, d := committed(t, a)
		d.Fail(all)
		checkUnchanged(t, d, func() { checkOpenErr(t, d, api.ErrOff) })
		d.Start()
		checkText(t, open(t, d), a)
	}
}

// A power failure that is planned does not prevent what needs no operation.
func TestOpenIsNoOperation(t *testing.T) {
	_, d := committed(t, text(1, room))
	checkErr(t, "Cut", d.Cut(0, 0), api.OK)
	checkUnchanged(t, d, func() { checkText(t, open(t, d), text(1, room)) })
}

func mustAppend(t *testing.T, d *disk.Disk, e ring.Entry) {
	t.Helper()
	_, err := ring.Append(d, e)
	checkErr(t, "ring.Append", err, api.OK)
}

func mustWrite(t *testing.T, d *disk.Disk, slot int, s string) {
	t.Helper()
	checkErr(t, "slots.Write", slots.Write(d, slot, s), api.OK)
}

// What is committed is said by the last entry, whatever its kind is and whatever those before say.
func TestOpenOfAnyLastEntry(t *testing.T) {
	for kind := 1; kind <= 3; kind++ {
		for slot := range 2 {
			for _, size := range []int{0, 1, 63, 64, 65, 128, 255, 256} {
				d := newDisk(t, 16)
				mustWrite(t, d, 0, text(0, room))
				mustWrite(t, d, 1, text(1, room))
				mustAppend(t, d, ring.Entry{Kind: 2, Slot: 1 - slot, Size: 7, Sum: sum(text(1-slot, 7))})
				want := text(slot, size)
				mustAppend(t, d, ring.Entry{Kind: kind, Slot: slot, Size: size, Sum: sum(want)})
				checkUnchanged(t, d, func() {
					s := open(t, d)
					checkText(t, s, want)
					checkOdd(t, s, false)
					checkWaits(t, s, false)
					checkErr(t, "Commit", s.Commit(), api.ErrNone)
					checkErr(t, "Drop", s.Drop(), api.ErrNone)
				})
				mustAppend(t, d, ring.Entry{Kind: kind, Slot: store.NoSlot, Size: size, Sum: sum(want)})
				checkUnchanged(t, d, func() { checkNew(t, open(t, d), false) })
			}
		}
	}
}

// oddEntries say that something is committed which is not there, on a disk whose slots have text(0) and text(1).
func oddEntries() []ring.Entry {
	var out []ring.Entry
	for slot := range 2 {
		s := text(slot, room)
		for kind := 1; kind <= 3; kind++ {
			for _, e := range []ring.Entry{
				{Size: room + 1, Sum: sum(s)},
				{Size: room + 1, Sum: sum("")},
				{Size: 2 * room, Sum: sum(s + text(1, room))},
				{Size: maxNumber, Sum: sum(s)},
				{Size: room, Sum: sum(s[:room-1])},
				{Size: room - 1, Sum: sum(s)},
				{Size: room, Sum: noSum},
				{Size: room, Sum: sum(text(1-slot, room))},
				{Size: room, Sum: sum(s)[:31] + "?"},
				{Size: room, Sum: "?" + sum(s)[1:]},
				{Size: 0, Sum: noSum},
				{Size: 0, Sum: sum(s)},
				{Size: 1, Sum: sum("")},
			} {
				e.Kind, e.Slot = kind, slot
				out = append(out, e)
			}
		}
	}
	return out
}

func oddDisk(t *testing.T, e ring.Entry) *disk.Disk {
	t.Helper()
	d := newDisk(t, 16)
	mustWrite(t, d, 0, text(0, room))
	mustWrite(t, d, 1, text(1, room))
	mustAppend(t, d, e)
	return d
}

func TestOpenOfOddEntries(t *testing.T) {
	for _, e := range oddEntries() {
		d := oddDisk(t, e)
		checkUnchanged(t, d, func() { checkNew(t, open(t, d), true) })
	}
}

// Nothing is committed in an odd store, so the next text goes into slot 0, and the entries say that nothing is.
func TestAnOddStoreContinues(t *testing.T) {
	none := ring.Entry{Slot: store.NoSlot, Sum: noSum}
	for _, e := range oddEntries() {
		d := oddDisk(t, e)
		s := open(t, d)
		mustPrepare(t, s, "new")
		checkOdd(t, s, true)
		checkNoText(t, s)
		none.Kind = store.Prepared
		checkLast(t, d, none)
		checkSlot(t, d, 0, "new")
		checkSlot(t, d, 1, text(1, room))
		checkNew(t, open(t, d), false)
		checkErr(t, "Drop", s.Drop(), api.OK)
		checkOdd(t, s, true)
		checkNoText(t, s)
		none.Kind = store.Dropped
		checkLast(t, d, none)
		checkErr(t, "Prepare", s.Prepare(text(1, room+1)), api.ErrFull)
		checkOdd(t, s, true)
		mustCommit(t, s, "newer")
		checkLast(t, d, ring.Entry{Kind: store.Committed, Slot: 0, Size: 5, Sum: sum("newer")})
		checkText(t, open(t, d), "newer")
		checkOdd(t, open(t, d), false)
	}
}

func TestAFailedCommitLeavesAStoreOdd(t *testing.T) {
	d := oddDisk(t, oddEntries()[0])
	s := open(t, d)
	mustPrepare(t, s, "new")
	d.Fail(0)
	checkErr(t, "Commit", s.Commit(), api.ErrOff)
	checkNew(t, s, true)
}

func TestTextsAreKeptWithoutPower(t *testing.T) {
	s, d := committed(t, "a")
	mustPrepare(t, s, "b")
	d.Fail(0)
	checkText(t, s, "a")
	checkWaits(t, s, true)
	checkOdd(t, s, false)
}

// The slots of an empty text are not read, so any bytes may be there.
func TestTheEmptyTextIsCommitted(t *testing.T) {
	s, d := committed(t, "abc", "", "", text(1, room), "")
	checkText(t, s, "")
	checkText(t, open(t, d), "")
	checkLast(t, d, ring.Entry{Kind: store.Committed, Slot: 0, Size: 0, Sum: sum("")})
}

// P7.2

func TestPrepareOfAllLengths(t *testing.T) {
	for _, before := range [][]string{nil, {"a"}, {"a", text(1, room)}, {text(2, 100), "", "c"}} {
		for _, size := range []int{0, 1, 63, 64, 65, 128, 200, room - 1, room} {
			for _, waiting := range []bool{false, true} {
				s, d := committed(t, before...)
				if waiting {
					mustPrepare(t, s, text(3, 77))
				}
				// Texts go alternately into slot 0 and slot 1.
				slot := len(before) % 2
				last := lastOf(before)
				next := text(4, size)
				checkOps(t, d, blocksFor(size)+3, func() { mustPrepare(t, s, next) })
				checkSlot(t, d, slot, next)
				last.Kind = store.Prepared
				checkLast(t, d, last)
				checkCommitted(t, s, before)
				checkCommitted(t, open(t, d), before)
				checkWaits(t, open(t, d), false)
				checkOps(t, d, 2, func() { checkErr(t, "Commit", s.Commit(), api.OK) })
				checkText(t, s, next)
				checkText(t, open(t, d), next)
				checkLast(t, d, ring.Entry{Kind: store.Committed, Slot: slot, Size: size, Sum: sum(next)})
			}
		}
	}
}

// lastOf returns the entry that says that the last one of these texts is committed.
func lastOf(texts []string) ring.Entry {
	if len(texts) == 0 {
		return ring.Entry{Slot: store.NoSlot, Sum: noSum}
	}
	last := texts[len(texts)-1]
	return ring.Entry{Slot: (len(texts) - 1) % 2, Size: len(last), Sum: sum(last)}
}

// checkCommitted checks that the last one of these texts is committed.
func checkCommitted(t *testing.T, s *store.Store, texts []string) {
	t.Helper()
	checkOdd(t, s, false)
	if len(texts) == 0 {
		checkNoText(t, s)
	} else {
		checkText(t, s, texts[len(texts)-1])
	}
}

func TestPrepareOfTooLongTexts(t *testing.T) {
	for _, before := range [][]string{nil, {"a"}, {"a", "b"}} {
		for _, size := range []int{room + 1, room + 64, 2 * room, 20000} {
			for _, waiting := range []bool{false, true} {
				s, d := committed(t, before...)
				if waiting {
					mustPrepare(t, s, "waits")
				}
				checkUnchanged(t, d, func() {
					checkErr(t, "Prepare", s.Prepare(text(1, size)), api.ErrFull)
					checkWaits(t, s, false)
					checkErr(t, "Commit", s.Commit(), api.ErrNone)
					checkErr(t, "Drop", s.Drop(), api.ErrNone)
					checkCommitted(t, s, before)
				})
				mustCommit(t, s, text(2, room))
			}
		}
	}
}

func TestAGreaterDiskHasGreaterSlots(t *testing.T) {
	d := newDisk(t, 512)
	s := open(t, d)
	checkErr(t, "Prepare", s.Prepare(text(1, 16129)), api.ErrFull)
	mustCommit(t, s, text(1, 16128))
	mustCommit(t, s, text(2, 16128))
	checkText(t, open(t, d), text(2, 16128))
}

func TestPrepareReplacesWhatIsPending(t *testing.T) {
	s, d := committed(t, "a")
	mustPrepare(t, s, "first")
	mustPrepare(t, s, "2")
	checkSlot(t, d, 1, "2\x00")
	checkText(t, s, "a")
	checkErr(t, "Commit", s.Commit(), api.OK)
	checkText(t, s, "2")
	checkText(t, open(t, d), "2")
	checkErr(t, "Commit", s.Commit(), api.ErrNone)
	checkErr(t, "Drop", s.Drop(), api.ErrNone)
}

// The entries of a store are numbered as those of the ring: one for each call that appends.
func TestEntriesAreCounted(t *testing.T) {
	s, d := committed(t, "a")
	mustPrepare(t, s, "b")
	mustPrepare(t, s, "c")
	checkErr(t, "Drop", s.Drop(), api.OK)
	checkErr(t, "Drop", s.Drop(), api.ErrNone)
	checkErr(t, "Commit", s.Commit(), api.ErrNone)
	checkErr(t, "Prepare", s.Prepare(text(1, room+1)), api.ErrFull)
	entries, err := ring.Scan(d)
	checkErr(t, "Scan", err, api.OK)
	a, none := sum("a"), noSum
	want := []ring.Entry{
		{Kind: 1, Number: 1, Slot: 2, Size: 0, Sum: none},
		{Kind: 2, Number: 2, Slot: 0, Size: 1, Sum: a},
		{Kind: 1, Number: 3, Slot: 0, Size: 1, Sum: a},
		{Kind: 1, Number: 4, Slot: 0, Size: 1, Sum: a},
		{Kind: 3, Number: 5, Slot: 0, Size: 1, Sum: a},
	}
	if !slices.Equal(entries, want) {
		t.Fatalf("the entries are %+v; want %+v", entries, want)
	}
}

// fullJournal returns a disk with a committed text whose journal can append so many entries.
func fullJournal(t *testing.T, text string, left int) *disk.Disk {
	t.Helper()
	d := newDisk(t, 16)
	mustWrite(t, d, 0, text)
	number := maxNumber - left
	block, err := ring.Build(ring.Entry{Kind: store.Committed, Number: number, Slot: 0, Size: len(text), Sum: sum(text)})
	checkErr(t, "Build", err, api.OK)
	checkErr(t, "disk.Write", d.Write(number%journal, block), api.OK)
	checkErr(t, "Sync", d.Sync(), api.OK)
	return d
}

func TestPrepareAtTheEndOfTheJournal(t *testing.T) {
	d := fullJournal(t, "a", 0)
	s := open(t, d)
	checkErr(t, "Prepare", s.Prepare("b"), api.ErrFull)
	checkWaits(t, s, false)
	checkErr(t, "Commit", s.Commit(), api.ErrNone)
	checkText(t, s, "a")
	checkSlot(t, d, 1, "b")
	checkText(t, open(t, d), "a")
}

func TestPrepareOverAPendingTextAtTheEndOfTheJournal(t *testing.T) {
	d := fullJournal(t, "a", 1)
	s := open(t, d)
	mustPrepare(t, s, "b")
	checkErr(t, "Prepare", s.Prepare("c"), api.ErrFull)
	checkWaits(t, s, false)
	checkErr(t, "Drop", s.Drop(), api.ErrNone)
	checkText(t, s, "a")
}

func TestCommitAndDropAtTheEndOfTheJournal(t *testing.T) {
	for _, do := range []func(*store.Store) api.Errno{(*store.Store).Commit, (*store.Store).Drop} {
		d := fullJournal(t, "a", 1)
		s := open(t, d)
		mustPrepare(t, s, "b")
		checkUnchanged(t, d, func() { checkErr(t, "Commit or Drop", do(s), api.ErrFull) })
		checkWaits(t, s, false)
		checkErr(t, "Commit or Drop", do(s), api.ErrNone)
		checkText(t, s, "a")
		checkOdd(t, s, false)
		checkText(t, open(t, d), "a")
	}
}

func TestPrepareWithoutPower(t *testing.T) {
	for _, waiting := range []bool{false, true} {
		for _, text := range []string{"", "x", text(1, room)} {
			s, d := committed(t, "a")
			if waiting {
				mustPrepare(t, s, "b")
			}
			d.Fail(0)
			checkUnchanged(t, d, func() { checkErr(t, "Prepare", s.Prepare(text), api.ErrOff) })
			checkWaits(t, s, false)
			checkErr(t, "Commit", s.Commit(), api.ErrNone)
			checkErr(t, "Drop", s.Drop(), api.ErrNone)
			checkText(t, s, "a")
			d.Start()
			mustCommit(t, s, text)
		}
	}
	s, d := committed(t, "a")
	d.Fail(0)
	checkErr(t, "Prepare", s.Prepare(text(1, room+1)), api.ErrFull)
}

// P7.3 and P7.4

func TestTextsGoIntoTheSlotsByTurns(t *testing.T) {
	s, d := committed(t)
	texts := []string{"one", text(2, 256), "", text(4, 65), "five"}
	for i, text := range texts {
		mustCommit(t, s, text)
		checkSlot(t, d, i%2, text)
		if i > 0 {
			checkSlot(t, d, 1-i%2, texts[i-1])
		}
		checkLast(t, d, ring.Entry{Kind: store.Committed, Slot: i % 2, Size: len(text), Sum: sum(text)})
	}
}

func TestDrop(t *testing.T) {
	for _, before := range [][]string{nil, {"a"}, {"a", "b"}} {
		s, d := committed(t, before...)
		mustPrepare(t, s, "next")
		checkOps(t, d, 2, func() { checkErr(t, "Drop", s.Drop(), api.OK) })
		checkWaits(t, s, false)
		last := lastOf(before)
		last.Kind = store.Dropped
		checkLast(t, d, last)
		checkCommitted(t, s, before)
		checkCommitted(t, open(t, d), before)
		checkUnchanged(t, d, func() {
			checkErr(t, "Commit", s.Commit(), api.ErrNone)
			checkErr(t, "Drop", s.Drop(), api.ErrNone)
		})
		// The next text goes into the same slot as the one that was dropped.
		mustPrepare(t, s, "after")
		checkSlot(t, d, len(before)%2, "after")
		checkErr(t, "Commit", s.Commit(), api.OK)
		checkText(t, open(t, d), "after")
	}
}

func TestCommitAndDropWithoutAPendingText(t *testing.T) {
	for _, before := range [][]string{nil, {"a"}, {"a", "b"}} {
		s, d := committed(t, before...)
		checkUnchanged(t, d, func() {
			checkErr(t, "Commit", s.Commit(), api.ErrNone)
			checkErr(t, "Drop", s.Drop(), api.ErrNone)
		})
		checkCommitted(t, s, before)
		d.Fail(0)
		checkErr(t, "Commit", s.Commit(), api.ErrNone)
		checkErr(t, "Drop", s.Drop(), api.ErrNone)
	}
}

func TestCommitAndDropWithoutPower(t *testing.T) {
	for _, do := range []func(*store.Store) api.Errno{(*store.Store).Commit, (*store.Store).Drop} {
		for _, before := range [][]string{nil, {"a"}, {"a", "b"}} {
			s, d := committed(t, before...)
			mustPrepare(t, s, "next")
			d.Fail(0)
			checkUnchanged(t, d, func() { checkErr(t, "Commit or Drop", do(s), api.ErrOff) })
			checkWaits(t, s, false)
			checkErr(t, "Commit or Drop", do(s), api.ErrNone)
			checkCommitted(t, s, before)
			d.Start()
			checkErr(t, "Commit or Drop", do(s), api.ErrNone)
			checkCommitted(t, open(t, d), before)
			mustCommit(t, s, "again")
			checkText(t, open(t, d), "again")
		}
	}
}

// A store that was opened behind a Prepare does not know what was pending.
func TestWhatIsPendingIsForgottenByOpen(t *testing.T) {
	s, d := committed(t, "a")
	mustPrepare(t, s, "b")
	again := open(t, d)
	checkWaits(t, again, false)
	checkErr(t, "Commit", again.Commit(), api.ErrNone)
	checkText(t, again, "a")
	mustCommit(t, again, "c")
	checkSlot(t, d, 1, "c")
}

func mustCopy(t *testing.T, s *store.Store, d *disk.Disk) *store.Store {
	t.Helper()
	c := s.Copy(d)
	if c == nil || c == s {
		t.Fatalf("Copy of %p = %p", s, c)
	}
	return c
}

func TestCopyHasTheSameState(t *testing.T) {
	for _, before := range [][]string{nil, {"a"}, {"a", "b"}} {
		s, d := committed(t, before...)
		c := mustCopy(t, s, d.Copy())
		checkCommitted(t, c, before)
		checkWaits(t, c, false)
		checkErr(t, "Commit", c.Commit(), api.ErrNone)
		mustPrepare(t, s, "next")
		e := d.Copy()
		c = mustCopy(t, s, e)
		checkCommitted(t, c, before)
		checkWaits(t, c, true)
		checkErr(t, "Commit", c.Commit(), api.OK)
		checkText(t, c, "next")
		checkText(t, open(t, e), "next")
		checkLast(t, e, ring.Entry{Kind: store.Committed, Slot: len(before) % 2, Size: 4, Sum: sum("next")})
	}
}

func TestCopyOfAnOddStore(t *testing.T) {
	d := oddDisk(t, oddEntries()[0])
	s := open(t, d)
	c := mustCopy(t, s, d.Copy())
	checkOdd(t, c, true)
	mustCommit(t, c, "a")
	checkOdd(t, s, true)
	checkNoText(t, s)
	checkOdd(t, mustCopy(t, c, d), false)
}

func TestStoreAndCopyAreIndependent(t *testing.T) {
	for n, do := range []func(*store.Store) api.Errno{
		(*store.Store).Commit,
		(*store.Store).Drop,
		func(s *store.Store) api.Errno { return s.Prepare("other") },
		func(s *store.Store) api.Errno {
			if err := s.Prepare("other"); err != api.OK {
				return err
			}
			return s.Commit()
		},
	} {
		for _, original := range []bool{false, true} {
			s, d := committed(t, "a")
			mustPrepare(t, s, "b")
			e := d.Copy()
			c := mustCopy(t, s, e)
			if original {
				s, c, d, e = c, s, e, d
			}
			checkUnchanged(t, d, func() { checkErr(t, "call "+strconv.Itoa(n), do(c), api.OK) })
			checkWaits(t, s, true)
			checkText(t, s, "a")
			checkUnchanged(t, e, func() { checkErr(t, "Commit", s.Commit(), api.OK) })
			checkText(t, s, "b")
			checkText(t, open(t, d), "b")
		}
	}
}

// The power of one disk is not that of the other.
func TestCopyUsesItsOwnDisk(t *testing.T) {
	s, d := committed(t, "a")
	mustPrepare(t, s, "b")
	e := d.Copy()
	c := mustCopy(t, s, e)
	d.Fail(0)
	checkErr(t, "Commit", c.Commit(), api.OK)
	checkErr(t, "Commit", s.Commit(), api.ErrOff)
	checkText(t, open(t, e), "b")
}

func TestCopyOfACopy(t *testing.T) {
	s, d := committed(t, "a")
	c := mustCopy(t, mustCopy(t, s, d.Copy()), d.Copy())
	mustCommit(t, c, "b")
	checkText(t, s, "a")
}

// On what is no disk, a copy has the state of the store, and nothing can be written.
func TestCopyOnNoDisk(t *testing.T) {
	s, _ := committed(t, "a")
	mustPrepare(t, s, "b")
	for _, d := range []*disk.Disk{nil, new(disk.Disk)} {
		c := mustCopy(t, s, d)
		checkText(t, c, "a")
		checkWaits(t, c, true)
		checkErr(t, "Commit", c.Commit(), api.ErrNil)
		checkWaits(t, c, false)
		checkErr(t, "Prepare", c.Prepare("c"), api.ErrNil)
		checkText(t, c, "a")
		c = mustCopy(t, s, d)
		checkErr(t, "Drop", c.Drop(), api.ErrNil)
	}
	checkWaits(t, s, true)
}

// P7.5

// checkReopened opens the store on a disk that was interrupted, and once more behind a further power failure, and checks that its text is one of those which are possible ("none" if nothing is committed). It returns the text.
func checkReopened(t *testing.T, d *disk.Disk, possible ...string) string {
	t.Helper()
	d.Start()
	var texts []string
	for _, mask := range []uint64{0, all, 5} {
		s := open(t, d)
		checkOdd(t, s, false)
		checkWaits(t, s, false)
		got, ok := s.Text()
		if !ok {
			got = "none"
		}
		texts = append(texts, got)
		d.Fail(mask)
		d.Start()
	}
	if !slices.Contains(possible, texts[0]) || len(slices.Compact(texts)) != 1 {
		t.Fatalf("the texts are %q; want one of %q", texts, possible)
	}
	return texts[0]
}

// lastText returns the last one of these texts, or "none".
func lastText(texts []string) string {
	if len(texts) == 0 {
		return "none"
	}
	return texts[len(texts)-1]
}

// A prepare of n blocks takes n + 3 operations: the blocks, a sync, the entry, and a sync.
func TestAPowerFailureInPrepare(t *testing.T) {
	for _, before := range [][]string{nil, {"a"}, {text(1, room), text(2, 99)}} {
		for _, waiting := range []bool{false, true} {
			for _, size := range []int{0, 1, 65, room} {
				for k := range blocksFor(size) + 3 {
					for _, mask := range masks {
						s, d := committed(t, before...)
						if waiting {
							mustPrepare(t, s, text(3, 130))
						}
						checkErr(t, "Cut", d.Cut(k, mask), api.OK)
						checkOps(t, d, k+1, func() { checkErr(t, "Prepare", s.Prepare(text(4, size)), api.ErrOff) })
						checkWaits(t, s, false)
						checkErr(t, "Commit", s.Commit(), api.ErrNone)
						checkCommitted(t, s, before)
						checkReopened(t, d, lastText(before))
						again := open(t, d)
						mustCommit(t, again, "again")
						checkReopened(t, d, "again")
					}
				}
			}
		}
	}
}

// checkPreparedFails checks a power failure behind k operations of a Commit or a Drop, and returns the text that is committed then.
func checkPreparedFails(t *testing.T, before []string, next string, k int, mask uint64, do func(*store.Store) api.Errno, possible ...string) string {
	t.Helper()
	s, d := committed(t, before...)
	mustPrepare(t, s, next)
	checkErr(t, "Cut", d.Cut(k, mask), api.OK)
	checkOps(t, d, k+1, func() { checkErr(t, "Commit or Drop", do(s), api.ErrOff) })
	checkWaits(t, s, false)
	checkErr(t, "Commit or Drop", do(s), api.ErrNone)
	checkCommitted(t, s, before)
	got := checkReopened(t, d, possible...)
	mustCommit(t, open(t, d), "again")
	checkReopened(t, d, "again")
	return got
}

func TestAPowerFailureInCommitAndDrop(t *testing.T) {
	for _, before := range [][]string{nil, {"a"}, {text(1, room), text(2, 99)}} {
		for _, size := range []int{0, 1, 65, room} {
			for k := range 2 {
				for _, mask := range masks {
					next, last := text(4, size), lastText(before)
					checkPreparedFails(t, before, next, k, mask, (*store.Store).Drop, last)
					got := checkPreparedFails(t, before, next, k, mask, (*store.Store).Commit, last, next)
					// The entry is the only pending write, so bit 0 of the mask says whether it is preserved.
					if preserved := mask&1 == 1; preserved != (got == next) {
						t.Fatalf("with the mask %x the text is %q", mask, got)
					}
				}
			}
		}
	}
}

func TestAPowerFailureBehindCommit(t *testing.T) {
	for _, mask := range masks {
		s, d := committed(t, "a", "b")
		mustPrepare(t, s, "c")
		checkErr(t, "Cut", d.Cut(2, mask), api.OK)
		checkErr(t, "Commit", s.Commit(), api.OK)
		checkErr(t, "Prepare", s.Prepare("d"), api.ErrOff)
		checkReopened(t, d, "c")
	}
}

func TestManyCommits(t *testing.T) {
	s, d := committed(t)
	for i := range 50 {
		text := text(i, i*37%(room+1))
		mustCommit(t, s, text)
		checkReopened(t, d, text)
		checkText(t, s, text)
	}
}

// chance makes calls by chance of a store whose power may fail in them, and opens it again behind each failure.
type chance struct {
	r       *rand.Rand
	d       *disk.Disk
	s       *store.Store
	last    string // what was committed last
	pending string
	waits   bool
}

// call makes one call and returns its error, with the text that would be committed by it, or "".
func (c *chance) call() (api.Errno, string) {
	switch c.r.Intn(4) {
	case 0, 1:
		c.pending = text(c.r.Int(), 1+c.r.Intn(slots.Room(c.d)))
		err := c.s.Prepare(c.pending)
		c.waits = err == api.OK
		return err, ""
	case 2:
		waited := c.waits
		c.waits = false
		if err := c.s.Commit(); err != api.OK || !waited {
			return err, c.pending
		}
		c.last = c.pending
		return api.OK, ""
	}
	c.waits = false
	return c.s.Drop(), ""
}

func (c *chance) step(t *testing.T) {
	t.Helper()
	if c.r.Intn(3) == 0 {
		checkErr(t, "Cut", c.d.Cut(c.r.Intn(12), c.r.Uint64()), api.OK)
	}
	waited := c.waits
	err, committing := c.call()
	switch {
	case err == api.ErrOff:
		possible := []string{c.last}
		if committing != "" {
			possible = append(possible, committing)
		}
		c.last = checkReopened(t, c.d, possible...)
		c.s, c.waits = open(t, c.d), false
	case err == api.ErrNone && waited, err != api.OK && err != api.ErrNone:
		t.Fatalf("a call returned %d", err)
	}
	checkWaits(t, c.s, c.waits)
	if got, ok := c.s.Text(); ok != (c.last != "none") || ok && got != c.last {
		t.Fatalf("Text = %q, %v; want %q", got, ok, c.last)
	}
}

func TestCallsAndPowerFailuresByChance(t *testing.T) {
	for seed := range int64(40) {
		r := rand.New(rand.NewSource(seed))
		d := newDisk(t, 16+r.Intn(8))
		c := &chance{r: r, d: d, s: open(t, d), last: "none"}
		for range 150 {
			c.step(t)
		}
	}
}
