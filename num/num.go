// Package num is layer 1: see shared/doc/01-num.md.
package num

import "subway/api"

// more stands, as a bit of a byte, for digits that follow: so bytes tell by themselves where their number ends.
const more = 128

// Put is a number's bytes, Get the number that bytes begin with. Text is a text's bytes, Read the text that bytes begin with.
func Put(n int64) []byte {
	b := digits(n, more)
	for i := range len(b) - 1 {
		b[i] += more
	}
	return b
}

func Get(b []byte) (int64, int, bool) {
	next := reader(b)
	return number(more, func() (int64, bool, bool) {
		c, is := next()
		return int64(c % more), c < more, is
	})
}

func Text(s string) []byte {
	if len(s) > api.MaxText {
		return nil
	}
	b := make([]byte, 0, 1+len(s))
	b = append(b, byte(len(s)))
	return append(b, s...)
}

func Read(b []byte) (string, int, bool) {
	next := reader(b)
	many, is := next()
	s := make([]byte, many)
	for i := range s {
		s[i], is = next()
	}
	if !is { // a reader that has come to its end stays there: the last answer speaks for all
		return "", 0, false
	}
	return string(s), 1 + len(s), true
}

// Decimal is a number's decimals, Parse the number of decimals.
func Decimal(n int64) string {
	b := digits(n, 10)
	for i := range b {
		b[i] += '0'
	}
	return string(b)
}

func Parse(s string) (int64, bool) {
	next, left := reader(s), len(s)
	n, _, is := number(10, func() (int64, bool, bool) {
		c, is := next()
		left--
		return int64(c) - '0', left == 0, is && '0' <= c && c <= '9'
	})
	return n, is
}

// digits are a number's digits of a base, the highest first, and no more than there must be; none, if it is no number that has some.
func digits(n, base int64) []byte {
	if n < 0 || n > api.MaxNum {
		return nil
	}
	many := 1
	for rest := n / base; rest > 0; rest /= base {
		many++
	}
	d := make([]byte, many)
	for i := range many { // the lowest is what division tells first, so it counts down from the end
		d[many-1-i] = byte(n % base)
		n /= base
	}
	return d
}

// reader tells, call by call, the next byte; false, once and for all, when there is none.
func reader[T string | []byte](from T) func() (byte, bool) {
	at := 0
	return func() (byte, bool) {
		if at == len(from) {
			return 0, false
		}
		at++
		return from[at-1], true
	}
}

// number is that of the digits that next tells, the highest first, and how many these are. Of each next says whether it is the last one, and whether it is a digit at all.
func number(base int64, next func() (int64, bool, bool)) (int64, int, bool) {
	n := int64(0)
	for many := 1; ; many++ {
		digit, last, is := next()
		if !is {
			return 0, 0, false
		}
		n = n*base + digit
		if n > api.MaxNum || n == 0 && !last { // with a 0 ahead a number would have two rows of digits
			return 0, 0, false
		}
		if last {
			return n, many, true
		}
	}
}
