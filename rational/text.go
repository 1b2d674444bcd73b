package rational

import (
	"strconv"
	"strings"

	"hemiola/api"
)

// maxDigits is the greatest number of digits that a number of a text may have.
const maxDigits = 10

// Text returns the text of x, and Parse the fraction of a text, or the offset of the first error and the error.
func (x R) Text() string {
	if x.more == 0 {
		return strconv.Itoa(x.num)
	}
	return strconv.Itoa(x.num) + "/" + strconv.Itoa(x.Den())
}

func Parse(s string) (x R, at int, e api.Errno) {
	num, den, at, e := split(s)
	if e != api.OK {
		return R{}, at, e
	}
	x, e = Of(num, den)
	if e != api.OK || x.Text() != s {
		return R{}, 0, api.ErrFormat
	}
	return x, 0, api.OK
}

// split returns the numerator and the denominator that are written in s, or the offset of the first error and the error.
func split(s string) (num, den, at int, e api.Errno) {
	begin := 0
	if strings.HasPrefix(s, "-") {
		begin = 1
	}
	end, at, e := skipNumber(s, begin)
	if e != api.OK {
		return 0, 0, at, e
	}
	num, _ = strconv.Atoi(s[:end])
	if end == len(s) {
		return num, 1, 0, api.OK
	}
	if s[end] != '/' {
		return 0, 0, end, api.ErrByte
	}
	begin = end + 1
	end, at, e = skipNumber(s, begin)
	if e != api.OK {
		return 0, 0, at, e
	}
	if end < len(s) {
		return 0, 0, end, api.ErrByte
	}
	den, _ = strconv.Atoi(s[begin:])
	return num, den, 0, api.OK
}

// skipNumber returns the offset after the number that begins at an offset, or the offset of the first error and the error.
func skipNumber(s string, begin int) (end, at int, e api.Errno) {
	end, digits := begin, 0
	for ; end < len(s) && isDigit(s[end]); end, digits = end+1, digits+1 {
	}
	switch {
	case digits > maxDigits:
		return 0, begin, api.ErrLong
	case digits > 0:
		return end, 0, api.OK
	case end == len(s):
		return 0, end, api.ErrShort
	}
	return 0, end, api.ErrByte
}

func isDigit(b byte) bool { return '0' <= b && b <= '9' }
