package octet_test

import (
	"math"
	"strings"
	"testing"

	"chrysalis/api"
	"chrysalis/octet"
)

var widths = []int{1, 2, 4, 8}

var badWidths = []int{math.MinInt, -8, -1, 0, 3, 5, 6, 7, 9, 16, 64, math.MaxInt}

// P1.1

func TestPutEncodesLeastSignificantByteFirst(t *testing.T) {
	for _, c := range []struct {
		n, width int
		want     string
	}{
		{0, 1, "\x00"},
		{0x7f, 1, "\x7f"},
		{0x80, 1, "\x80"},
		{255, 1, "\xff"},
		{0, 2, "\x00\x00"},
		{258, 2, "\x02\x01"},
		{1<<16 - 1, 2, "\xff\xff"},
		{0, 4, "\x00\x00\x00\x00"},
		{0x01020304, 4, "\x04\x03\x02\x01"},
		{1 << 31, 4, "\x00\x00\x00\x80"},
		{1<<32 - 1, 4, "\xff\xff\xff\xff"},
		{0, 8, "\x00\x00\x00\x00\x00\x00\x00\x00"},
		{0x0102030405060708, 8, "\x08\x07\x06\x05\x04\x03\x02\x01"},
		{-1, 8, "\xff\xff\xff\xff\xff\xff\xff\xff"},
		{-2, 8, "\xfe\xff\xff\xff\xff\xff\xff\xff"},
		{math.MaxInt, 8, "\xff\xff\xff\xff\xff\xff\xff\x7f"},
		{math.MinInt, 8, "\x00\x00\x00\x00\x00\x00\x00\x80"},
	} {
		if got, err := octet.Put(c.n, c.width); got != c.want || err != api.OK {
			t.Errorf("Put(%d, %d) = %q, %d; want %q", c.n, c.width, got, err, c.want)
		}
		if got, err := octet.Get(c.want, 0, c.width); got != c.n || err != api.OK {
			t.Errorf("Get(%q, 0, %d) = %d, %d; want %d", c.want, c.width, got, err, c.n)
		}
	}
}

func TestPutRefusesWidths(t *testing.T) {
	for _, width := range badWidths {
		for _, n := range []int{0, 1, -1, math.MaxInt, math.MinInt} {
			if got, err := octet.Put(n, width); got != "" || err != api.ErrArg {
				t.Errorf("Put(%d, %d) = %q, %d; want ErrArg", n, width, got, err)
			}
		}
	}
}

func TestPutRefusesNumbersBeyondTheWidth(t *testing.T) {
	for _, width := range []int{1, 2, 4} {
		limit := 1 << (8 * width)
		for _, n := range []int{limit, limit + 1, 2 * limit, math.MaxInt, -1, -limit, 1 - limit, math.MinInt} {
			if got, err := octet.Put(n, width); got != "" || err != api.ErrArg {
				t.Errorf("Put(%d, %d) = %q, %d; want ErrArg", n, width, got, err)
			}
		}
		if got, err := octet.Put(limit-1, width); got != strings.Repeat("\xff", width) || err != api.OK {
			t.Errorf("Put(%d, %d) = %q, %d; want bytes 255", limit-1, width, got, err)
		}
	}
}

func TestGetReadsAtItsOffset(t *testing.T) {
	const s = "\x01\x02\x03\x04\x05\x06\x07\x08\x89"
	for _, c := range []struct{ at, width, want int }{
		{0, 1, 1},
		{8, 1, 0x89},
		{0, 2, 0x0201},
		{7, 2, 0x8908},
		{0, 4, 0x04030201},
		{5, 4, 0x89080706},
		{0, 8, 0x0807060504030201},
		{1, 8, -0x76f7f8f9fafbfcfe},
	} {
		if got, err := octet.Get(s, c.at, c.width); got != c.want || err != api.OK {
			t.Errorf("Get(s, %d, %d) = %#x, %d; want %#x", c.at, c.width, got, err, c.want)
		}
	}
}

func TestGetErrors(t *testing.T) {
	const s = "\xff\xff\xff\xff\xff\xff\xff\xff\xff"
	for _, width := range widths {
		last := len(s) - width
		for _, c := range []struct {
			at   int
			want api.Errno
		}{
			{math.MinInt, api.ErrArg},
			{-width, api.ErrArg},
			{-1, api.ErrArg},
			{0, api.OK},
			{last, api.OK},
			{last + 1, api.ErrShort},
			{len(s), api.ErrShort},
			{len(s) + 1, api.ErrShort},
			{math.MaxInt - width, api.ErrShort},
			{math.MaxInt, api.ErrShort},
		} {
			got, err := octet.Get(s, c.at, width)
			if err != c.want || err != api.OK && got != 0 {
				t.Errorf("Get(s, %d, %d) = %d, %d; want error %d", c.at, width, got, err, c.want)
			}
		}
		if got, err := octet.Get("", 0, width); got != 0 || err != api.ErrShort {
			t.Errorf(`Get("", 0, %d) = %d, %d; want ErrShort`, width, got, err)
		}
		if got, err := octet.Get("", -1, width); got != 0 || err != api.ErrArg {
			t.Errorf(`Get("", -1, %d) = %d, %d; want ErrArg`, width, got, err)
		}
	}
}

func TestGetRefusesWidthsBeforeItLooksForBytes(t *testing.T) {
	for _, width := range badWidths {
		for _, at := range []int{math.MinInt, -1, 0, 1, 3, 4, math.MaxInt} {
			if got, err := octet.Get("abc", at, width); got != 0 || err != api.ErrArg {
				t.Errorf(`Get("abc", %d, %d) = %d, %d; want ErrArg`, at, width, got, err)
			}
		}
	}
}

// P1.2

func TestTextPrefixesTheLength(t *testing.T) {
	for _, c := range []struct{ s, want string }{
		{"", "\x00\x00\x00\x00"},
		{"ab", "\x02\x00\x00\x00ab"},
		{"\x00\xff\xc3", "\x03\x00\x00\x00\x00\xff\xc3"},
		{"é", "\x02\x00\x00\x00\xc3\xa9"},
		{strings.Repeat("x", 255), "\xff\x00\x00\x00" + strings.Repeat("x", 255)},
		{strings.Repeat("x", 0x10203), "\x03\x02\x01\x00" + strings.Repeat("x", 0x10203)},
	} {
		if got := octet.Text(c.s); got != c.want {
			t.Errorf("Text of %d bytes has %d bytes; want %d that are different", len(c.s), len(got), len(c.want))
		}
	}
}

func TestTextOfAGreatString(t *testing.T) {
	const size = 0x1020304
	got := octet.Text(strings.Repeat("x", size))
	if len(got) != size+4 || got[:5] != "\x04\x03\x02\x01x" {
		t.Errorf("Text of %d bytes has %d bytes and begins with %q", size, len(got), got[:5])
	}
}

func TestNextReadsAtItsOffset(t *testing.T) {
	for _, c := range []struct {
		s    string
		at   int
		want string
		end  int
	}{
		{"\x00\x00\x00\x00", 0, "", 4},
		{"\x00\x00\x00\x00rest", 0, "", 4},
		{"\x02\x00\x00\x00ab", 0, "ab", 6},
		{"\x02\x00\x00\x00abc", 0, "ab", 6},
		{"x\x02\x00\x00\x00abc", 1, "ab", 7},
		{"xyz\x00\x00\x00\x00", 3, "", 7},
		{"\x03\x00\x00\x00\x00\xff\xc3", 0, "\x00\xff\xc3", 7},
		{"\x00\x01\x00\x00" + strings.Repeat("y", 257), 0, strings.Repeat("y", 256), 260},
	} {
		got, end, err := octet.Next(c.s, c.at)
		if got != c.want || end != c.end || err != api.OK {
			t.Errorf("Next(%q, %d) = %q, %d, %d; want %q, %d", c.s, c.at, got, end, err, c.want, c.end)
		}
	}
}

func TestNextErrors(t *testing.T) {
	for _, c := range []struct {
		s    string
		at   int
		want api.Errno
	}{
		{"", 0, api.ErrShort},
		{"", 1, api.ErrShort},
		{"", -1, api.ErrArg},
		{"\x02\x00\x00\x00ab", -1, api.ErrArg},
		{"\x02\x00\x00\x00ab", math.MinInt, api.ErrArg},
		{"\x00", 0, api.ErrShort},
		{"\x00\x00\x00", 0, api.ErrShort},
		{"\x00\x00\x00\x00", 1, api.ErrShort},
		{"\x00\x00\x00\x00", 4, api.ErrShort},
		{"\x00\x00\x00\x00", 5, api.ErrShort},
		{"\x00\x00\x00\x00", math.MaxInt - 3, api.ErrShort},
		{"\x00\x00\x00\x00", math.MaxInt, api.ErrShort},
		{"\x01\x00\x00\x00", 0, api.ErrShort},
		{"\x03\x00\x00\x00ab", 0, api.ErrShort},
		{"\x05\x00\x00\x00ab", 0, api.ErrShort},
		{"abcd\x02\x00\x00\x00a", 4, api.ErrShort},
		{"\x00\x00\x00\x80ab", 0, api.ErrShort},
		{"\xff\xff\xff\xff", 0, api.ErrShort},
		{"\xff\xff\xff\xffab", 0, api.ErrShort},
	} {
		if got, end, err := octet.Next(c.s, c.at); got != "" || end != 0 || err != c.want {
			t.Errorf("Next(%q, %d) = %q, %d, %d; want error %d", c.s, c.at, got, end, err, c.want)
		}
	}
}

func TestNextNeedsTheWholeEncoding(t *testing.T) {
	whole := octet.Text("abcde")
	for size := range len(whole) {
		if got, end, err := octet.Next(whole[:size], 0); got != "" || end != 0 || err != api.ErrShort {
			t.Errorf("Next of the first %d bytes = %q, %d, %d; want ErrShort", size, got, end, err)
		}
	}
}

// P1.3

func TestHexWritesTheHigherHalfFirst(t *testing.T) {
	for _, c := range []struct{ s, want string }{
		{"", ""},
		{"\x00", "00"},
		{"\x0fa", "0f61"},
		{"\xf0", "f0"},
		{"é", "c3a9"},
		{"\x01\x23\x45\x67\x89\xab\xcd\xef", "0123456789abcdef"},
		{"\xff\xfe\x80", "fffe80"},
	} {
		if got := octet.Hex(c.s); got != c.want {
			t.Errorf("Hex(%q) = %q; want %q", c.s, got, c.want)
		}
		if got, err := octet.Unhex(c.want); got != c.s || err != api.OK {
			t.Errorf("Unhex(%q) = %q, %d; want %q", c.want, got, err, c.s)
		}
	}
}

func TestUnhexTakesTheSixteenDigitsOnly(t *testing.T) {
	const digits = "0123456789abcdef"
	for b := range 256 {
		digit := string([]byte{byte(b)})
		value := strings.Index(digits, digit)
		for _, c := range []struct {
			s     string
			value int
		}{{digit + "0", value << 4}, {"0" + digit, value}} {
			got, err := octet.Unhex(c.s)
			if value < 0 && (got != "" || err != api.ErrForm) {
				t.Errorf("Unhex(%q) = %q, %d; want ErrForm", c.s, got, err)
			}
			if value >= 0 && (got != string([]byte{byte(c.value)}) || err != api.OK) {
				t.Errorf("Unhex(%q) = %q, %d; want the byte %d", c.s, got, err, c.value)
			}
		}
	}
}

func TestUnhexErrors(t *testing.T) {
	for _, s := range []string{
		"0", "f", "0f6", "0f610",
		"0F", "F0", "0g", "g0", "0x", "0X0f", " 0", "0 ", "0\n", "\x00\x00", "-1", "+1",
		"00zz", "zz00", "001", "0123456789abcdeG",
		"é", "0é0", "00é", "é00", "0é", "１", "１0", "\xff\xff", "0\xff", "0\xc3", "\xef\xbf\xbd0",
	} {
		if got, err := octet.Unhex(s); got != "" || err != api.ErrForm {
			t.Errorf("Unhex(%q) = %q, %d; want ErrForm", s, got, err)
		}
	}
}

// P1.4

// samples returns strings whose bytes look like encodings, digits, runes and parts of runes.
func samples() []string {
	all := make([]byte, 256)
	for i := range all {
		all[i] = byte(i)
	}
	return []string{
		"", "a", "ab", "\x00", "\x00\x00\x00\x00", "\xff\xff\xff\xff", "\x01\x00\x00\x00",
		"0f61", "é", "\xc3", "\xa9", octet.Text("inner"), string(all), strings.Repeat("\x80", 1000),
	}
}

func TestNumbersAreDecodedWhateverSurroundsThem(t *testing.T) {
	for _, width := range widths {
		numbers := []int{0, 1, 2, 127, 128, 254, 255}
		if width > 1 {
			numbers = append(numbers, 256, 0x1234, 1<<15, 1<<16-1)
		}
		if width > 2 {
			numbers = append(numbers, 1<<16, 0x12345678, 1<<31, 1<<32-1)
		}
		if width > 4 {
			numbers = append(numbers, 1<<32, -1, -2, -256, -1<<32, math.MaxInt, math.MinInt, math.MinInt+1)
		}
		for _, n := range numbers {
			code, err := octet.Put(n, width)
			if len(code) != width || err != api.OK {
				t.Fatalf("Put(%d, %d) = %q, %d", n, width, code, err)
			}
			for _, around := range samples() {
				got, err := octet.Get(around+code+around, len(around), width)
				if got != n || err != api.OK {
					t.Errorf("Get with width %d = %d, %d; want %d", width, got, err, n)
				}
			}
		}
	}
}

func TestEveryNumberOfTwoBytesIsDecoded(t *testing.T) {
	for n := range 1 << 16 {
		code, err := octet.Put(n, 2)
		if err != api.OK {
			t.Fatalf("Put(%d, 2): %d", n, err)
		}
		if got, err := octet.Get(code, 0, 2); got != n || err != api.OK {
			t.Fatalf("Get(%q, 0, 2) = %d, %d; want %d", code, got, err, n)
		}
	}
}

func TestTextsAreDecodedWhateverSurroundsThem(t *testing.T) {
	for _, s := range samples() {
		for _, around := range samples() {
			got, end, err := octet.Next(around+octet.Text(s)+around, len(around))
			if got != s || end != len(around)+4+len(s) || err != api.OK {
				t.Errorf("Next = %q, %d, %d; want %q", got, end, err, s)
			}
		}
	}
}

func TestTextsAreDecodedOneAfterTheOther(t *testing.T) {
	var all string
	for _, s := range samples() {
		all += octet.Text(s)
	}
	at := 0
	for _, s := range samples() {
		got, end, err := octet.Next(all, at)
		if got != s || err != api.OK {
			t.Fatalf("Next at %d = %q, %d; want %q", at, got, err, s)
		}
		at = end
	}
	if at != len(all) {
		t.Errorf("the last text ends at %d; want %d", at, len(all))
	}
	if got, end, err := octet.Next(all, at); got != "" || end != 0 || err != api.ErrShort {
		t.Errorf("Next after the last text = %q, %d, %d; want ErrShort", got, end, err)
	}
}

func TestUnhexOfHexIsTheString(t *testing.T) {
	for _, s := range samples() {
		code := octet.Hex(s)
		if len(code) != 2*len(s) {
			t.Errorf("Hex(%q) has %d digits", s, len(code))
		}
		if got, err := octet.Unhex(code); got != s || err != api.OK {
			t.Errorf("Unhex(%q) = %q, %d; want %q", code, got, err, s)
		}
	}
}
