// Package octet is layer 1, byte encodings: see shared/doc/01-octet.md.
package octet

import "chrysalis/api"

const (
	lengthWidth = 4
	digits      = "0123456789abcdef"
)

// Put returns the encoding of n in width bytes, the least significant byte first.
func Put(n, width int) (string, api.Errno) {
	if !isWidth(width) || !fits(n, width) {
		return "", api.ErrArg
	}
	return encode(uint64(n), width), api.OK
}

// Get returns the integer that is encoded in width bytes at offset at of s.
func Get(s string, at, width int) (int, api.Errno) {
	if !isWidth(width) || at < 0 {
		return 0, api.ErrArg
	}
	// at is subtracted, because at + width could exceed the greatest int.
	if len(s)-at < width {
		return 0, api.ErrShort
	}
	return int(decode(s[at : at+width])), api.OK
}

// Text returns the length of s in four bytes, followed by s.
func Text(s string) string {
	return encode(uint64(len(s)), lengthWidth) + s
}

// Next returns the string that Text encoded at offset at of s, and the offset after it.
func Next(s string, at int) (string, int, api.Errno) {
	size, err := Get(s, at, lengthWidth)
	if err != api.OK {
		return "", 0, err
	}
	start := at + lengthWidth
	if len(s)-start < size {
		return "", 0, api.ErrShort
	}
	end := start + size
	return s[start:end], end, api.OK
}

// Hex returns two digits for each byte of s, the higher half first.
func Hex(s string) string {
	out := make([]byte, 0, 2*len(s))
	for i := range len(s) {
		out = append(out, digits[s[i]>>4], digits[s[i]&15])
	}
	return string(out)
}

// Unhex returns the bytes whose Hex is s.
func Unhex(s string) (string, api.Errno) {
	if len(s)%2 != 0 {
		return "", api.ErrForm
	}
	out := make([]byte, len(s)/2)
	// A range over s visits runes, but i still counts digits: every byte before a rune that is no digit was one.
	for i, r := range s {
		d, ok := digitValue(r)
		if !ok {
			return "", api.ErrForm
		}
		out[i/2] = out[i/2]<<4 | d
	}
	return string(out), api.OK
}

func isWidth(width int) bool {
	return width == 1 || width == 2 || width == 4 || width == 8
}

// fits expects a valid width. With width 8 every integer fits, as it is encoded modulo 2^64.
func fits(n, width int) bool {
	return width == 8 || 0 <= n && n < 1<<(8*width)
}

func encode(n uint64, width int) string {
	out := make([]byte, width)
	for i := range out {
		out[i] = byte(n)
		n >>= 8
	}
	return string(out)
}

func decode(s string) uint64 {
	var n uint64
	for i := range len(s) {
		n |= uint64(s[i]) << (8 * i)
	}
	return n
}

func digitValue(r rune) (byte, bool) {
	switch {
	case '0' <= r && r <= '9':
		return byte(r - '0'), true
	case 'a' <= r && r <= 'f':
		return byte(r-'a') + 10, true
	}
	return 0, false
}
