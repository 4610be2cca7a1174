package digest_test

import (
	"crypto/sha256"
	"encoding/hex"
	"strconv"
	"strings"
	"testing"

	"chrysalis/digest"
)

// lengths are those at which the message gains a block, and those beside them.
var lengths = []int{
	0, 1, 2, 3, 4, 31, 32, 33, 54, 55, 56, 57, 62, 63, 64, 65, 66,
	118, 119, 120, 121, 127, 128, 129, 183, 184, 191, 192, 193, 1000, 4096,
}

// text returns size bytes, all values among them, without a period that divides a block.
func text(size int) string {
	out := make([]byte, size)
	for i := range out {
		out[i] = byte(i*7 + i/251 + 3)
	}
	return string(out)
}

// reference returns the digest that Go's own library computes.
func reference(s string) string {
	sum := sha256.Sum256([]byte(s))
	return string(sum[:])
}

func hashOf(parts ...string) *digest.Hash {
	h := digest.New()
	for _, part := range parts {
		h.Write(part)
	}
	return h
}

func checkSum(t *testing.T, what string, h *digest.Hash, written string) {
	t.Helper()
	if got, want := h.Sum(), reference(written); got != want {
		t.Errorf("%s: Sum() = %x; want %x", what, got, want)
	}
	if got := h.Len(); got != len(written) {
		t.Errorf("%s: Len() = %d; want %d", what, got, len(written))
	}
}

// P2.1

func TestSizes(t *testing.T) {
	if digest.Size != 32 || digest.Block != 64 {
		t.Errorf("Size, Block = %d, %d; want 32, 64", digest.Size, digest.Block)
	}
}

// published returns texts with their digests, which stand in the chapter or with FIPS 180-4.
func published() map[string]string {
	return map[string]string{
		"abc": "ba7816bf 8f01cfea 414140de 5dae2223 b00361a3 96177a9c b410ff61 f20015ad",
		"":    "e3b0c442 98fc1c14 9afbf4c8 996fb924 27ae41e4 649b934c a495991b 7852b855",
		"abcdbcdecdefdefgefghfghighijhijkijkljklmklmnlmnomnopnopq": "248d6a61 d20638b8 e5c02693 0c3e6039 a33ce459 64ff2167 f6ecedd4 19db06c1",
		strings.Repeat("a", 1000000):                               "cdc76e5c 9914fb92 81a1c7e2 84d73e67 f1809a48 a497200e 046d39cc c7112cd0",
	}
}

func TestOfPublishedTexts(t *testing.T) {
	for s, words := range published() {
		want, err := hex.DecodeString(strings.ReplaceAll(words, " ", ""))
		if err != nil {
			t.Fatal(err)
		}
		if got := digest.Of(s); got != string(want) {
			t.Errorf("Of a text of %d bytes = %x; want %x", len(s), got, want)
		}
		checkSum(t, "a text of "+strconv.Itoa(len(s))+" bytes", hashOf(s), s)
	}
}

func TestOfEveryLengthNearABlock(t *testing.T) {
	for size := range 4*digest.Block + 2 {
		if s := text(size); digest.Of(s) != reference(s) {
			t.Errorf("Of a text of %d bytes = %x; want %x", size, digest.Of(s), reference(s))
		}
	}
}

func TestOfManyBlocks(t *testing.T) {
	for _, size := range []int{1<<13 - 1, 1 << 13, 1 << 16, 1<<16 + 55, 1<<16 + 56, 1<<21 + 1} {
		if s := text(size); digest.Of(s) != reference(s) {
			t.Errorf("Of a text of %d bytes = %x; want %x", size, digest.Of(s), reference(s))
		}
	}
}

func TestOfBytesThatAreNoRunes(t *testing.T) {
	for _, s := range []string{
		"\x00", "\x80", "\xff", "é", "\xc3", "\xa9", "\x00\x00\x00\x00\x00\x00\x00\x08",
		strings.Repeat("\x00", 64), strings.Repeat("\xff", 64), strings.Repeat("\x80", 55), "\x80" + strings.Repeat("\x00", 63),
	} {
		if got, want := digest.Of(s), reference(s); got != want {
			t.Errorf("Of(%q) = %x; want %x", s, got, want)
		}
	}
}

// P2.2

func TestNewHoldsNothing(t *testing.T) {
	h := digest.New()
	if h == nil {
		t.Fatal("New() = nil")
	}
	checkSum(t, "New", h, "")
	if other := digest.New(); other == h {
		t.Error("New returned the same Hash twice")
	} else {
		other.Write("x")
		checkSum(t, "a Hash after a Write to another", h, "")
	}
}

func TestWriteAppends(t *testing.T) {
	h := digest.New()
	var written string
	for _, size := range []int{0, 1, 0, 62, 1, 0, 64, 63, 2, 63, 128, 200, 55, 1, 1, 0} {
		part := text(size)
		h.Write(part)
		written += part
		if h.Len() != len(written) {
			t.Errorf("Len() = %d; want %d", h.Len(), len(written))
		}
		checkSum(t, "after "+strconv.Itoa(len(written))+" bytes", h, written)
	}
}

func TestLenCountsBytes(t *testing.T) {
	h := digest.New()
	for _, c := range []struct {
		part string
		want int
	}{{"", 0}, {"a", 1}, {"", 1}, {"é", 3}, {"\x00\xff", 5}, {text(59), 64}, {"", 64}, {text(65), 129}, {text(100000), 100129}} {
		h.Write(c.part)
		if got := h.Len(); got != c.want {
			t.Errorf("Len() after a part of %d bytes = %d; want %d", len(c.part), got, c.want)
		}
	}
}

func TestSumLetsMoreBeWritten(t *testing.T) {
	for _, size := range lengths {
		for _, more := range []int{0, 1, 7, 8, 9, 55, 56, 64, 65, 200} {
			first, second := text(size), text(more)
			h := hashOf(first)
			checkSum(t, "before more is written", h, first)
			checkSum(t, "a second time", h, first)
			h.Write(second)
			checkSum(t, "after more was written", h, first+second)
		}
	}
}

func TestCopiesGoTheirOwnWay(t *testing.T) {
	for _, size := range lengths {
		for _, more := range []int{1, 8, 63, 64, 65, 150} {
			start := text(size)
			one := hashOf(start)
			two := one.Copy()
			if two == nil || two == one {
				t.Fatalf("Copy() = %p of %p", two, one)
			}
			checkSum(t, "the copy", two, start)
			checkSum(t, "its original", one, start)

			left, right := strings.Repeat("l", more), strings.Repeat("r", more+1)
			one.Write(left)
			checkSum(t, "the copy after a Write to its original", two, start)
			two.Write(right)
			checkSum(t, "the original after a Write to its copy", one, start+left)
			checkSum(t, "the copy after a Write", two, start+right)

			three := two.Copy()
			two.Write(left)
			three.Write(left + left)
			checkSum(t, "the original", one, start+left)
			checkSum(t, "the copy", two, start+right+left)
			checkSum(t, "the copy of the copy", three, start+right+left+left)
		}
	}
}

func checkDoesNothing(t *testing.T, what string, h *digest.Hash) {
	t.Helper()
	for range 2 {
		if got := h.Sum(); got != "" {
			t.Errorf("%s: Sum() = %x; want nothing", what, got)
		}
		if got := h.Len(); got != 0 {
			t.Errorf("%s: Len() = %d; want 0", what, got)
		}
		if got := h.Copy(); got != nil {
			t.Errorf("%s: Copy() = %p; want nil", what, got)
		}
		h.Write("")
		h.Write("abc")
		h.Write(text(200))
	}
}

func TestNilDoesNothing(t *testing.T) {
	checkDoesNothing(t, "nil", nil)
}

func TestWhatNewDidNotReturnDoesNothing(t *testing.T) {
	var zero digest.Hash
	checkDoesNothing(t, "a zero Hash", &zero)
	checkDoesNothing(t, "a new Hash", new(digest.Hash))
	if zero != (digest.Hash{}) {
		t.Error("a zero Hash was changed")
	}
	if h := (&zero).Copy().Copy(); h != nil {
		t.Errorf("Copy of no Hash = %p; want nil", h)
	}
}

func TestAssignedHashDoesNothing(t *testing.T) {
	for _, written := range []string{"", "abc", text(64), text(100)} {
		h := hashOf(written)
		assigned := *h
		checkDoesNothing(t, "an assigned Hash", &assigned)
		if assigned != *h {
			t.Error("an assigned Hash was changed")
		}
		checkSum(t, "what it was assigned from", h, written)
	}
}

// P2.3

func TestPartsDoNotMatter(t *testing.T) {
	whole := text(3*digest.Block + 9)
	want := digest.Of(whole)
	for first := range len(whole) + 1 {
		for _, second := range []int{0, 1, 55, 63, 64, 65, len(whole)} {
			second = min(first+second, len(whole))
			h := hashOf(whole[:first], "", whole[first:second], "", whole[second:])
			if got := h.Sum(); got != want {
				t.Errorf("in parts up to %d, %d and %d: %x; want %x", first, second, len(whole), got, want)
			}
		}
	}
}

func TestEqualPartsDoNotMatter(t *testing.T) {
	for _, size := range []int{55, 64, 119, 128, 640, 5000} {
		whole := text(size)
		for _, step := range []int{1, 2, 3, 7, 31, 32, 33, 63, 64, 65, 127, 128, 129, 1000} {
			h := digest.New()
			for at := 0; at < size; at += step {
				h.Write(whole[at:min(at+step, size)])
			}
			checkSum(t, strconv.Itoa(size)+" bytes in parts of "+strconv.Itoa(step), h, whole)
			if h.Sum() != digest.Of(whole) {
				t.Errorf("%d bytes in parts of %d: %x; want %x", size, step, h.Sum(), digest.Of(whole))
			}
		}
	}
}

func TestDigestsHaveTheirSize(t *testing.T) {
	for _, size := range lengths {
		s := text(size)
		if n := len(digest.Of(s)); n != 32 {
			t.Errorf("Of a text of %d bytes has %d bytes", size, n)
		}
		if n := len(hashOf(s).Sum()); n != 32 {
			t.Errorf("Sum of a text of %d bytes has %d bytes", size, n)
		}
	}
}

// The number of bits of this text does not fit into four bytes.
func TestTextOfMoreThanFourBytesOfBits(t *testing.T) {
	if testing.Short() {
		t.Skip("the text has 512 MiB")
	}
	const parts = 512
	part := text(1 << 20)
	h, want := digest.New(), sha256.New()
	for range parts {
		h.Write(part)
		want.Write([]byte(part))
	}
	if got := h.Sum(); got != string(want.Sum(nil)) || h.Len() != parts<<20 {
		t.Errorf("Sum(), Len() = %x, %d; want %x, %d", got, h.Len(), want.Sum(nil), parts<<20)
	}
}
