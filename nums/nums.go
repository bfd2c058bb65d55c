// Package nums is layer 1: numbers and texts as bytes, the check of names, and a checksum. See shared/doc/01-nums.md.
package nums

import "stevedore/api"

const (
	base      = 128 // of the digits; it also marks each byte that another one follows
	maxDigits = 9   // 63 bits: more could tell a number that no int holds

	firstByte = 33 // of a name
	lastByte  = 126

	sumStart   = 1
	sumFactor  = 31
	sumModulus = 65521
)

// Put is numbers as bytes, one behind the other; one below 0 counts as 0.
func Put(ns ...int) string {
	var out []byte
	for _, n := range ns {
		out = putOne(out, max(n, 0))
	}
	return string(out)
}

func putOne(out []byte, n int) []byte {
	for n >= base {
		out = append(out, byte(n%base+base))
		n /= base
	}
	return append(out, byte(n))
}

// Take takes a number up, and tells what is left.
func Take(data string) (int, string, api.Errno) {
	n := 0
	for i := range min(len(data), maxDigits) {
		digit := int(data[i])
		if digit >= base {
			n |= (digit - base) << (7 * i)
			continue
		}
		// A highest digit of 0 would be a second way to write the same number.
		if digit == 0 && i > 0 {
			return 0, "", api.ErrBytes
		}
		return n | digit<<(7*i), data[i+1:], api.OK
	}
	return 0, "", api.ErrBytes
}

// Text is a text as bytes: its length, then itself.
func Text(s string) string {
	return Put(len(s)) + s
}

// TakeText takes a text up, and tells what is left.
func TakeText(data string) (string, string, api.Errno) {
	n, rest, e := Take(data)
	if e != api.OK {
		return "", "", e
	}
	if n > len(rest) {
		return "", "", api.ErrBytes
	}
	return rest[:n], rest[n:], api.OK
}

// Name tells whether a text may be a name.
func Name(s string) api.Errno {
	if len(s) > api.MaxText {
		return api.ErrText
	}
	if s == "" {
		return api.ErrName
	}
	for i := range len(s) {
		if s[i] < firstByte || s[i] > lastByte {
			return api.ErrName
		}
	}
	return api.OK
}

// Sum is a check of bytes.
func Sum(data string) int {
	sum := sumStart
	for i := range len(data) {
		// Reduced at each byte, so that long data can't overflow.
		sum = (sum*sumFactor + int(data[i])) % sumModulus
	}
	return sum
}
