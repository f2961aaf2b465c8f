// Package wire is layer 1: see shared/doc/01-wire.md.
package wire

import "becket/api"

const (
	digitBits = 7
	digitMask = 1<<digitBits - 1
	more      = 1 << digitBits // the bit that tells that another digit follows
	maxDigits = 10
	lastDigit = 1 // what 64 bits leave for the tenth digit
)

// Num writes a number behind b: P1.1.
func Num(b []byte, n uint64) []byte {
	return appendNum(withRoom(b, maxDigits), n)
}

// Text writes a text behind b: P1.1.
func Text(b []byte, s string) []byte {
	out := appendNum(withRoom(b, maxDigits+len(s)), uint64(len(s)))
	return append(out, s...)
}

// GetNum reads a number: P1.2.
func GetNum(b []byte, at int, most uint64) (uint64, int, error) {
	if at < 0 || at > len(b) {
		return 0, 0, api.ErrArg
	}
	n, size := readNum(b[at:])
	if size == 0 {
		return 0, 0, api.ErrForm
	}
	if n > most {
		return 0, 0, api.ErrLarge
	}
	return n, at + size, nil
}

// GetText reads a text: P1.2.
func GetText(b []byte, at, most int) (string, int, error) {
	if most < 0 || most > api.MaxText {
		return "", 0, api.ErrArg
	}
	// P1.2 names ErrLarge ahead of the missing bytes' ErrForm: the size is
	// held against most first, whatever stands behind it.
	size, start, err := GetNum(b, at, uint64(most))
	if err != nil {
		return "", 0, err
	}
	if size > uint64(len(b)-start) {
		return "", 0, api.ErrForm
	}
	end := start + int(size)
	return string(b[start:end]), end, nil
}

// withRoom is a copy of b: to append to b itself could overwrite what its
// owner has behind its end.
func withRoom(b []byte, room int) []byte {
	out := make([]byte, len(b), len(b)+room)
	copy(out, b)
	return out
}

// appendNum writes a number's digits to a slice that is wire's own.
func appendNum(out []byte, n uint64) []byte {
	for n > digitMask {
		out = append(out, byte(n&digitMask)|more)
		n >>= digitBits
	}
	return append(out, byte(n))
}

// readNum is the number at the front of b, and how many bytes it takes: 0, if
// none stands there.
func readNum(b []byte) (uint64, int) {
	var n uint64
	for i := range min(len(b), maxDigits) {
		digit := b[i]
		if i == maxDigits-1 && digit > lastDigit {
			return 0, 0
		}
		n |= uint64(digit&digitMask) << (digitBits * i)
		if digit&more != 0 {
			continue
		}
		// A highest digit of 0 could be left out: the number has fewer bytes.
		if digit == 0 && i > 0 {
			return 0, 0
		}
		return n, i + 1
	}
	return 0, 0
}
