// Package floor is layer 1: whole numbers that are cut downwards, and sums of 128 bits. See shared/doc/01-floor.md.
package floor

import (
	"math/bits"
	"strings"

	"estuary/api"
)

// longest is how many bytes the longest text of a wide number has: a sign and 39 digits.
const longest = 40

// Div is a time's window.
func Div(t, r int) int {
	if r < 1 {
		return 0
	}
	// Go cuts towards 0: below 0 a rest pulls the window one down.
	return t/r + spread(t%r)
}

// Mod is where a time lies in its window.
func Mod(t, r int) int {
	if r < 1 {
		return 0
	}
	rest := t % r
	return rest + r&spread(rest)
}

// In tells whether a time lies in a window.
func In(t, k, r int) bool {
	// A window's ends may be no numbers of 64 bits, so they are never worked out.
	return r >= 1 && Div(t, r) == k
}

// Bits is how many binary digits a number's amount has.
func Bits(n int) int {
	s := spread(n)
	// The least number's amount is none of int's; the same bits without a sign are that amount.
	return bits.Len64(uint64((n ^ s) - s))
}

// Of is a number as a wide one.
func Of(n int) api.Wide {
	return api.Wide{Hi: spread(n), Lo: uint(n)}
}

// Add is a sum.
func Add(a, b api.Wide) api.Wide {
	lo, carry := bits.Add64(uint64(a.Lo), uint64(b.Lo), 0)
	hi, _ := bits.Add64(uint64(a.Hi), uint64(b.Hi), carry)
	return wide(hi, lo)
}

// Neg is 0 less a number.
func Neg(a api.Wide) api.Wide {
	return Add(api.Wide{Hi: ^a.Hi, Lo: ^a.Lo}, Of(1))
}

// Less tells whether a number is less than another one.
func Less(a, b api.Wide) bool {
	if a.Hi != b.Hi {
		return a.Hi < b.Hi
	}
	return a.Lo < b.Lo
}

// Text is a number in decimal digits.
func Text(a api.Wide) string {
	if a == Of(0) {
		return "0"
	}
	var digits [longest]byte
	at := longest
	hi, lo := amount(a)
	for hi != 0 || lo != 0 {
		var digit uint64
		hi, lo, digit = tenth(hi, lo)
		at--
		digits[at] = '0' + byte(digit)
	}
	if a.Hi < 0 {
		at--
		digits[at] = '-'
	}
	return string(digits[at:])
}

// Parse is the number that has a text.
func Parse(s string) (api.Wide, bool) {
	if len(s) > longest {
		return api.Wide{}, false
	}
	digits := strings.TrimPrefix(s, "-")
	var a api.Wide
	for i := range len(digits) {
		a = Add(tenfold(a), Of(int(digits[i])-'0'))
	}
	if len(digits) < len(s) {
		a = Neg(a)
	}
	// Other bytes than digits, noughts ahead and sums that wrapped around all end in a number with another text.
	if Text(a) != s {
		return api.Wide{}, false
	}
	return a, true
}

// spread is -1 of a number below 0, and 0 of any other: its sign in all bits.
func spread(n int) int {
	return n >> 63
}

// wide is the wide number of two halves.
func wide(hi, lo uint64) api.Wide {
	return api.Wide{Hi: int(hi), Lo: uint(lo)}
}

// amount is the halves of a number's amount, without a sign: so the least number has one, too.
func amount(a api.Wide) (hi, lo uint64) {
	if a.Hi < 0 {
		a = Neg(a)
	}
	return uint64(a.Hi), uint64(a.Lo)
}

// tenth is the halves of an amount divided by ten, and the rest.
func tenth(hi, lo uint64) (uint64, uint64, uint64) {
	low, rest := bits.Div64(hi%10, lo, 10)
	return hi / 10, low, rest
}

// tenfold is ten times a number, wrapping around.
func tenfold(a api.Wide) api.Wide {
	carry, lo := bits.Mul64(uint64(a.Lo), 10)
	return wide(uint64(a.Hi)*10+carry, lo)
}
