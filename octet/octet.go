// Package octet is layer 1, numbers and texts as bytes: see shared/doc/01-octet.md.
package octet

import "watermeet/api"

// maxVar is how many bytes a number's short bytes are at most: nine hold 63 bits, so that of the tenth one a single bit is left.
const maxVar = 10

// Put and Get are numbers of so many bytes, PutVar and GetVar numbers as short as they go, PutText and GetText texts.
func Put(b []byte, n uint64, k int) []byte {
	if !isWidth(k) {
		return copied(b, 0)
	}
	x := copied(b, k)
	for i := range k {
		x = append(x, byte(n>>(8*(k-1-i))))
	}
	return x
}

func Get(b []byte, at, k int) (uint64, api.Errno) {
	if !isWidth(k) || at < 0 {
		return 0, api.ErrArg
	}
	if !has(b, at, k) {
		return 0, api.ErrShort
	}
	var n uint64
	for _, c := range b[at : at+k] {
		n = n<<8 | uint64(c)
	}
	return n, api.OK
}

func PutVar(b []byte, n int) []byte {
	return appendVar(copied(b, maxVar), n)
}

func GetVar(b []byte, at int) (n, next int, e api.Errno) {
	if at < 0 {
		return 0, 0, api.ErrArg
	}
	var u uint64
	for i := range maxVar {
		if !has(b, at, i+1) {
			return 0, 0, api.ErrShort
		}
		c := b[at+i]
		if i == maxVar-1 && c > 1 || i > 0 && c == 0 {
			break
		}
		u |= uint64(c&127) << (7 * i)
		if c < 128 {
			return unfold(u), at + i + 1, api.OK
		}
	}
	return 0, 0, api.ErrForm
}

func PutText(b []byte, s string) []byte {
	return append(appendVar(copied(b, maxVar+len(s)), len(s)), s...)
}

func GetText(b []byte, at, most int) (s string, next int, e api.Errno) {
	n, next, e := GetVar(b, at)
	if e != api.OK {
		return "", 0, e
	}
	if n < 0 {
		return "", 0, api.ErrForm
	}
	if n > most {
		return "", 0, api.ErrBound
	}
	if !has(b, next, n) {
		return "", 0, api.ErrShort
	}
	return string(b[next : next+n]), next + n, api.OK
}

func isWidth(k int) bool { return k >= 1 && k <= 8 }

// The place and the number are held apart in has, as their sum may be too great for an int.
func has(b []byte, at, many int) bool {
	return at <= len(b) && many <= len(b)-at
}

// What is put behind bytes is put behind a copy of them: behind b itself may be room that its owner uses.
func copied(b []byte, more int) []byte {
	return append(make([]byte, 0, len(b)+more), b...)
}

func appendVar(b []byte, n int) []byte {
	u := fold(n)
	for u >= 128 {
		b = append(b, byte(u)|128)
		u >>= 7
	}
	return append(b, byte(u))
}

// Numbers are folded (0, -1, 1, -2, 2 are 0, 1, 2, 3, 4), so that those near 0 are short on both of its sides.
func fold(n int) uint64 { return uint64(n)<<1 ^ uint64(n>>63) }

func unfold(u uint64) int { return int(u>>1) ^ -int(u&1) }
