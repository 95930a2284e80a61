// Package digits is layer 1: see shared/doc/01-digits.md.
package digits

import (
	"strings"

	"selvedge/api"
)

// maxLen is how many bytes the greatest number has.
const maxLen = 8

// Num are a number's bytes.
func Num(v uint64) string {
	var b [1 + maxLen]byte
	at := maxLen
next:
	if v > 0 {
		b[at] = byte(v)
		v >>= 8
		at--
		goto next
	}
	b[at] = byte(maxLen - at)
	return string(b[at:])
}

// TakeNum takes one.
func TakeNum(s string) (uint64, string, api.Errno) {
	if s == "" {
		return 0, "", api.ErrMore
	}
	size, rest := int(s[0]), s[1:]
	if size > maxLen {
		return 0, "", api.ErrForm
	}
	if len(rest) < size {
		return 0, "", api.ErrMore
	}
	// A zero byte ahead would give a number a second encoding.
	if size > 0 && rest[0] == 0 {
		return 0, "", api.ErrForm
	}
	var v uint64
	for i := range size {
		v = v<<8 | uint64(rest[i])
	}
	return v, rest[size:], api.OK
}

// Text are a text's bytes.
func Text(t string) string { return Num(uint64(len(t))) + t }

// TakeText takes one.
func TakeText(s string, most int) (string, string, api.Errno) {
	size, rest, e := TakeNum(s)
	if e != api.OK {
		return "", "", e
	}
	if above(size, most) {
		return "", "", api.ErrBig
	}
	if size > uint64(len(rest)) {
		return "", "", api.ErrMore
	}
	return rest[:size], rest[size:], api.OK
}

// above compares without a wrap-around: a size may be beyond every int, and a negative limit is below every size.
func above(size uint64, most int) bool { return most < 0 || size > uint64(most) }

// Row are a row's bytes.
func Row(l []string) string {
	var b strings.Builder
	b.WriteString(Num(uint64(len(l))))
	for _, t := range l {
		b.WriteString(Text(t))
	}
	return b.String()
}

// TakeRow takes one.
func TakeRow(s string, many, most int) ([]string, string, api.Errno) {
	size, rest, e := TakeNum(s)
	if e != api.OK {
		return nil, "", e
	}
	if above(size, many) {
		return nil, "", api.ErrBig
	}
	return takeAll(rest, size, func(s string) (string, string, api.Errno) { return TakeText(s, most) })
}

// takeAll takes size elements, one after another. It makes no room ahead: size is only what the bytes claim.
func takeAll[T any](s string, size uint64, take func(string) (T, string, api.Errno)) ([]T, string, api.Errno) {
	var l []T
	for range size {
		x, rest, e := take(s)
		if e != api.OK {
			return nil, "", e
		}
		l, s = append(l, x), rest
	}
	return l, s, api.OK
}
