package mac_test

import (
	"crypto/hmac"
	"crypto/sha256"
	"encoding/hex"
	"strings"
	"testing"
	"time"

	"chrysalis/mac"
)

const (
	blockSize = 64
	tagSize   = 32
)

// text returns size bytes, all values among them, which depend on seed.
func text(size, seed int) string {
	out := make([]byte, size)
	for i := range out {
		out[i] = byte(i*7 + i/251 + seed)
	}
	return string(out)
}

func zeros(n int) string {
	return strings.Repeat("\x00", n)
}

// reference returns the tag that Go's own library computes.
func reference(key, s string) string {
	h := hmac.New(sha256.New, []byte(key))
	h.Write([]byte(s))
	return string(h.Sum(nil))
}

func sha(s string) string {
	sum := sha256.Sum256([]byte(s))
	return string(sum[:])
}

func unhex(t *testing.T, s string) string {
	t.Helper()
	out, err := hex.DecodeString(s)
	if err != nil {
		t.Fatal(err)
	}
	return string(out)
}

// keys returns keys of all lengths at which something changes, and of those beside them.
func keys() []string {
	out := []string{"k", "key", "\x00", "\xff", "é", zeros(63), zeros(64), zeros(65), "k" + zeros(63), zeros(63) + "k"}
	for _, size := range []int{0, 1, 2, 20, 31, 32, 33, 62, 63, 64, 65, 66, 127, 128, 129, 131, 1000, 100000} {
		out = append(out, text(size, 3))
	}
	return out
}

// texts returns texts whose inner message gains a block, and those beside them.
func texts() []string {
	out := []string{"a", "abc", "\x00", "\xff\x00", "é"}
	for _, size := range []int{0, 1, 31, 32, 33, 54, 55, 56, 57, 63, 64, 65, 119, 120, 128, 1000, 70000} {
		out = append(out, text(size, 11))
	}
	return out
}

// changed returns s with the bits of mask turned in its byte at.
func changed(s string, at int, mask byte) string {
	out := []byte(s)
	out[at] ^= mask
	return string(out)
}

func checkOf(t *testing.T, key, s string) {
	t.Helper()
	if got, want := mac.Of(key, s), reference(key, s); got != want {
		t.Errorf("Of a text of %d bytes under a key of %d = %x; want %x", len(s), len(key), got, want)
	}
}

func checkRight(t *testing.T, what, key, s, tag string, want bool) {
	t.Helper()
	if got := mac.Right(key, s, tag); got != want {
		shown := tag[:min(len(tag), 2*tagSize)]
		t.Errorf("Right of %s (%d bytes, %x), for a text of %d bytes under a key of %d = %v; want %v", what, len(tag), shown, len(s), len(key), got, want)
	}
}

// P3.1

func TestKeyOfAtMostABlockIsFilledUp(t *testing.T) {
	for size := range blockSize + 1 {
		for _, key := range []string{text(size, 3), zeros(size), strings.Repeat("\xff", size)} {
			if got, want := mac.Key(key), key+zeros(blockSize-size); got != want {
				t.Errorf("Key of %x = %x; want %x", key, got, want)
			}
		}
	}
}

func TestKeyOfMoreThanABlockIsItsDigest(t *testing.T) {
	for _, size := range []int{65, 66, 96, 127, 128, 129, 1000, 1 << 20} {
		for _, key := range []string{text(size, 3), zeros(size)} {
			if got, want := mac.Key(key), sha(key)+zeros(blockSize-tagSize); got != want {
				t.Errorf("Key of %d bytes = %x; want %x", size, got, want)
			}
		}
	}
}

func TestKeyHasABlock(t *testing.T) {
	for _, key := range keys() {
		if got := mac.Key(key); len(got) != blockSize {
			t.Errorf("Key of %d bytes has %d bytes; want %d", len(key), len(got), blockSize)
		} else if mac.Key(got) != got {
			t.Errorf("Key of a Key = %x; want %x", mac.Key(got), got)
		}
	}
}

// P3.2

func TestOfChapterExample(t *testing.T) {
	want := unhex(t, "f7bc83f430538424b13298e6aa6fb143ef4d59a14946175997479dbc2d1a3cd8")
	if got := mac.Of("key", "The quick brown fox jumps over the lazy dog"); got != want {
		t.Errorf("Of = %x; want %x", got, want)
	}
}

// published are tests of RFC 4231, with a key and a text of no bytes before them.
var published = []struct{ key, text, tag string }{
	{"", "", "b613679a0814d9ec772f95d778c35fc5ff1697c493715653c6c712144292c5ad"},
	{strings.Repeat("\x0b", 20), "Hi There", "b0344c61d8db38535ca8afceaf0bf12b881dc200c9833da726e9376c2e32cff7"},
	{"Jefe", "what do ya want for nothing?", "5bdcc146bf60754e6a042426089575c75a003f089d2739839dec58b964ec3843"},
	{strings.Repeat("\xaa", 20), strings.Repeat("\xdd", 50), "773ea91e36800e46854db8ebd09181a72959098b3ef8c122d9635514ced565fe"},
	{strings.Repeat("\xaa", 131), "Test Using Larger Than Block-Size Key - Hash Key First", "60e431591ee0b67f0d8a26aacbf5b77f8e0bc6213728c5140546040f0ee37f54"},
}

func TestOfPublishedTexts(t *testing.T) {
	for _, c := range published {
		if got, want := mac.Of(c.key, c.text), unhex(t, c.tag); got != want {
			t.Errorf("Of(%q, %q) = %x; want %x", c.key, c.text, got, want)
		}
		checkRight(t, "a published tag", c.key, c.text, unhex(t, c.tag), true)
	}
}

func TestOfKeysAndTexts(t *testing.T) {
	for _, key := range keys() {
		for _, s := range texts() {
			checkOf(t, key, s)
		}
	}
}

func TestOfEveryKeyLengthNearABlock(t *testing.T) {
	for size := range 2*blockSize + 2 {
		checkOf(t, text(size, 3), "abc")
	}
}

func TestOfEveryTextLengthNearABlock(t *testing.T) {
	for size := range 3*blockSize + 2 {
		checkOf(t, "key", text(size, 11))
	}
}

func TestOfManyBlocks(t *testing.T) {
	for _, size := range []int{1 << 16, 1<<16 + 55, 1<<16 + 56, 1<<20 + 1} {
		checkOf(t, "key", text(size, 11))
		checkOf(t, text(size, 3), text(size, 11))
	}
}

// With Key, the definition of the chapter can be written out.
func TestOfIsWhatTheChapterDefines(t *testing.T) {
	for _, key := range keys() {
		var outer, inner []byte
		for _, b := range []byte(mac.Key(key)) {
			outer, inner = append(outer, b^0x5c), append(inner, b^0x36)
		}
		for _, s := range texts() {
			if got, want := mac.Of(key, s), sha(string(outer)+sha(string(inner)+s)); got != want {
				t.Errorf("Of a text of %d bytes under a key of %d = %x; want %x", len(s), len(key), got, want)
			}
		}
	}
}

// P3.3

func TestRightOfTheTag(t *testing.T) {
	for _, key := range keys() {
		for _, s := range texts() {
			checkRight(t, "the tag", key, s, reference(key, s), true)
		}
	}
}

func TestRightOfATagUnderAnotherKey(t *testing.T) {
	for _, c := range []struct{ key, other string }{
		{"key", "kez"}, {"key", ""}, {"", "key"}, {"key", "Key"}, {"key", "ke"}, {"key", "key "}, {"key", "\x00key"},
		{text(63, 3), text(64, 3)}, {text(64, 3), text(65, 3)}, {text(65, 3), text(66, 3)}, {text(1000, 3), text(1001, 3)},
		{text(64, 3), changed(text(64, 3), 63, 1)}, {text(65, 3), changed(text(65, 3), 64, 1)}, {zeros(64), zeros(65)},
	} {
		for _, s := range []string{"", "abc", text(200, 11)} {
			checkRight(t, "a tag under another key", c.key, s, reference(c.other, s), false)
			checkRight(t, "a tag under another key", c.other, s, reference(c.key, s), false)
		}
	}
}

func TestRightOfATagOfAnotherText(t *testing.T) {
	long := text(1000, 11)
	for _, c := range []struct{ text, other string }{
		{"", "a"}, {"", "\x00"}, {"abc", "abd"}, {"abc", "ab"}, {"abc", "abc\x00"}, {"abc", "abc\x80"}, {"abc", "cba"},
		{long, long[1:]}, {long, long[:999]}, {long, changed(long, 0, 1)}, {long, changed(long, 500, 1)}, {long, changed(long, 999, 128)},
	} {
		for _, key := range []string{"", "key", text(64, 3), text(65, 3)} {
			checkRight(t, "a tag of another text", key, c.text, reference(key, c.other), false)
			checkRight(t, "a tag of another text", key, c.other, reference(key, c.text), false)
		}
	}
}

func TestRightOfWhatIsNoTag(t *testing.T) {
	for _, key := range []string{"", "key", text(65, 3)} {
		for _, s := range []string{"", "abc"} {
			tag := reference(key, s)
			checkRight(t, "a tag in digits", key, s, hex.EncodeToString([]byte(tag)), false)
			checkRight(t, "bytes 0", key, s, zeros(tagSize), false)
			checkRight(t, "the digest of the text", key, s, sha(s), false)
			checkRight(t, "the digest of key and text", key, s, sha(key+s), false)
			checkRight(t, "the inner digest", key, s, innerDigest(key, s), false)
			checkRight(t, "the key", key, s, key, false)
			checkRight(t, "the text", key, s, s, false)
			checkRight(t, "the tag with its last byte first", key, s, tag[31:]+tag[:31], false)
		}
	}
}

func innerDigest(key, s string) string {
	k := []byte(mac.Key(key))
	for i := range k {
		k[i] ^= 0x36
	}
	return sha(string(k) + s)
}

// shortest returns the shortest time that one of several calls of f took.
func shortest(f func()) time.Duration {
	least := time.Hour
	for range 5 {
		start := time.Now()
		f()
		least = min(least, time.Since(start))
	}
	return least
}

// What Right examines shows only in the time that it takes: a tag of many bytes can't be examined much faster than a loop goes through its bytes, wherever the first difference is, and a loop that is left at it takes almost none.
func TestRightExaminesTheWholeTag(t *testing.T) {
	const size = 1 << 23
	right := reference("key", "abc")
	filling := strings.Repeat("x", size)
	var seen byte
	loop := shortest(func() {
		for i := range len(filling) {
			seen |= filling[i]
		}
	})
	if seen != 'x' {
		t.Fatalf("the loop saw %x", seen)
	}
	for _, at := range []int{0, 1, 16, 31} {
		tag := changed(right, at, 1) + filling
		took := shortest(func() { checkRight(t, "a long tag", "key", "abc", tag, false) })
		if took < loop/100 {
			t.Errorf("a tag of %d bytes that differs at byte %d takes %v, and a loop %v", len(tag), at, took, loop)
		}
	}
}

// P3.4

func TestTagsHaveTheirSize(t *testing.T) {
	for _, key := range keys() {
		for _, s := range texts() {
			if n := len(mac.Of(key, s)); n != tagSize {
				t.Errorf("Of a text of %d bytes under a key of %d has %d bytes", len(s), len(key), n)
			}
		}
	}
}

func TestATagIsAccepted(t *testing.T) {
	for _, key := range keys() {
		for _, s := range texts() {
			checkRight(t, "its own tag", key, s, mac.Of(key, s), true)
		}
	}
}

func TestATruncatedTagIsNotAccepted(t *testing.T) {
	for _, key := range []string{"", "key", text(64, 3), text(65, 3)} {
		for _, s := range []string{"", "abc", text(1000, 11)} {
			tag := mac.Of(key, s)
			checkRight(t, "an empty tag", key, s, "", false)
			for n := range tagSize {
				checkRight(t, "a tag cut at its end", key, s, tag[:n], false)
				checkRight(t, "a tag cut at its start", key, s, tag[tagSize-n:], false)
			}
			checkRight(t, "a tag cut at both ends", key, s, tag[1:31], false)
		}
	}
}

func TestATagWithMoreBytesIsNotAccepted(t *testing.T) {
	for _, key := range []string{"", "key", text(64, 3), text(65, 3)} {
		for _, s := range []string{"", "abc", text(1000, 11)} {
			tag := mac.Of(key, s)
			for b := range 256 {
				more := string([]byte{byte(b)})
				checkRight(t, "a tag with a byte after it", key, s, tag+more, false)
				checkRight(t, "a tag with a byte before it", key, s, more+tag, false)
			}
			checkRight(t, "a tag twice", key, s, tag+tag, false)
			// A length that is held against 32 in one byte alone would accept this.
			checkRight(t, "a tag with 256 bytes 0 after it", key, s, tag+zeros(256), false)
			checkRight(t, "a tag with 2^16 bytes 0 after it", key, s, tag+zeros(1<<16), false)
		}
	}
}

// A tag that ends with bytes 0 must not be taken for the same tag without them, or the other way round.
func TestTagsThatEndWithBytesZero(t *testing.T) {
	found := 0
	for i := 0; found < 3; i++ {
		s := text(10, i) + strings.Repeat("s", i/256)
		tag := reference("key", s)
		if tag[31] != 0 {
			continue
		}
		found++
		checkRight(t, "a tag that ends with a byte 0", "key", s, tag, true)
		checkRight(t, "it without the byte 0", "key", s, tag[:31], false)
		checkRight(t, "it with another byte 0", "key", s, tag+"\x00", false)
	}
}

func TestATagWithOneBitTurnedIsNotAccepted(t *testing.T) {
	for _, key := range []string{"", "key", text(64, 3), text(65, 3)} {
		for _, s := range []string{"", "abc", text(1000, 11)} {
			tag := mac.Of(key, s)
			for at := range tagSize {
				for bit := range 8 {
					checkRight(t, "a tag with a bit turned", key, s, changed(tag, at, 1<<bit), false)
				}
			}
		}
	}
}

func TestATagWithOneByteChangedIsNotAccepted(t *testing.T) {
	tag := mac.Of("key", "abc")
	for at := range tagSize {
		for mask := 1; mask < 256; mask++ {
			checkRight(t, "a tag with a byte changed", "key", "abc", changed(tag, at, byte(mask)), false)
		}
	}
}

// Differences that cancel each other out, if they are combined by exclusive or or by a sum, do not make a tag right.
func TestATagWithTwoBytesChangedIsNotAccepted(t *testing.T) {
	tag := mac.Of("key", "abc")
	for at := range tagSize - 1 {
		for mask := 1; mask < 256; mask++ {
			checkRight(t, "a tag with two bytes changed", "key", "abc", changed(changed(tag, at, byte(mask)), 31, byte(mask)), false)
		}
		up := []byte(tag)
		up[at]++
		up[31]--
		checkRight(t, "a tag with the same sum", "key", "abc", string(up), false)
	}
}

func TestKeysThatDifferInBytesZeroAtTheirEnd(t *testing.T) {
	for _, key := range []string{"", "k", "key", "k\x00y", "\x00key", text(32, 3), text(62, 3), text(63, 3)} {
		for n := 1; len(key)+n <= blockSize; n++ {
			longer := key + zeros(n)
			if mac.Key(longer) != mac.Key(key) {
				t.Errorf("Key(%x) = %x; want %x", longer, mac.Key(longer), mac.Key(key))
			}
			for _, s := range []string{"", "abc", text(200, 11)} {
				if mac.Of(longer, s) != mac.Of(key, s) {
					t.Errorf("Of(%x, %x) = %x; want %x", longer, s, mac.Of(longer, s), mac.Of(key, s))
				}
				checkRight(t, "a tag under an equivalent key", key, s, mac.Of(longer, s), true)
				checkRight(t, "a tag under an equivalent key", longer, s, mac.Of(key, s), true)
			}
		}
	}
}

func TestOtherKeysWithBytesZeroAreNotEquivalent(t *testing.T) {
	for _, c := range []struct{ key, other string }{
		{"key", "key" + zeros(62)}, {text(64, 3), text(64, 3) + "\x00"}, {zeros(64), zeros(65)}, {"", zeros(65)}, {zeros(65), zeros(66)},
		{"key", "\x00key"}, {"key", "k\x00ey"}, {"\x00", "\x01"},
	} {
		if mac.Key(c.key) == mac.Key(c.other) {
			t.Errorf("Key(%x) is that of %x", c.key, c.other)
		}
		checkRight(t, "a tag under another key", c.key, "abc", mac.Of(c.other, "abc"), false)
	}
}

// A key of more than a block is equivalent to its digest, because that is what it is used as.
func TestALongKeyIsEquivalentToItsDigest(t *testing.T) {
	for _, size := range []int{65, 128, 1000} {
		key := text(size, 3)
		if got, want := mac.Of(key, "abc"), mac.Of(sha(key), "abc"); got != want {
			t.Errorf("Of under a key of %d bytes = %x; want %x", size, got, want)
		}
	}
}
