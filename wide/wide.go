// Package wide: numbers of 128 bits. See doc/01-wide.md.
package wide

import (
	"math/bits"
	"strconv"
	"strings"

	"belfry/api"
)

// Int is Hi times 2^64, and Lo.
type Int struct {
	Hi int64
	Lo uint64
}

// Of tells n as a wide number.
func Of(n int64) Int { return Int{Hi: n >> 63, Lo: uint64(n)} }

// Add tells a and b together; ErrOver: 128 bits do not hold it.
func Add(a, b Int) (Int, api.Errno) { return narrow(add(extend(a), extend(b))) }

// Neg tells a with the other sign; ErrOver: 128 bits do not hold it.
func Neg(a Int) (Int, api.Errno) { return Add(Int{Hi: ^a.Hi, Lo: ^a.Lo}, Of(1)) }

// Mul tells a times b, which 128 bits always hold.
func Mul(a, b int64) Int {
	hi, lo := bits.Mul64(uint64(a), uint64(b))
	// A factor below 0 was read as 2^64 too great: the other one is in hi once too often.
	return Int{Hi: int64(hi) - (a >> 63 & b) - (b >> 63 & a), Lo: lo}
}

// Cmp tells how a stands to b: -1, 0, 1.
func Cmp(a, b Int) int { return compare(extend(a), extend(b)) }

// Text tells a in decimal.
func Text(a Int) string {
	sign, hi, lo := "", uint64(a.Hi), a.Lo
	if a.Hi < 0 {
		var borrow uint64
		sign = "-"
		lo, borrow = bits.Sub64(0, lo, 0)
		hi, _ = bits.Sub64(0, hi, borrow)
	}
	// hi is at most 2^63, thus below 10^19: the quotient is one limb.
	front, rest := bits.Div64(hi, lo, 1e19)
	tail := strconv.FormatUint(rest, 10)
	if front == 0 {
		return sign + tail
	}
	return sign + strconv.FormatUint(front, 10) + strings.Repeat("0", 19-len(tail)) + tail
}

// Parse tells the number that Text wrote so; ErrForm: it wrote none so; ErrOver: 128 bits do not hold it.
func Parse(s string) (Int, api.Errno) {
	digits, below := strings.CutPrefix(s, "-")
	if !decimal(digits) || below && digits == "0" {
		return Int{}, api.ErrForm
	}
	if len(digits) > mostDigits {
		return Int{}, api.ErrOver
	}
	sign := int64(1)
	if below {
		sign = -1
	}
	// The sign is put to each digit, as the least number has no other side to be turned from.
	return narrow(fold([]byte(digits), limbs{}, func(have limbs, c byte) limbs {
		return add(scale(have, 10), extend(Of(sign*int64(c-'0'))))
	}))
}

// decimal tells whether s is digits alone, without a leading nought.
func decimal(s string) bool {
	return s != "" && strings.Trim(s, "0123456789") == "" && (s == "0" || s[0] != '0')
}

// Ratio tells how a by b stands to num by den: -1, 0, 1; ErrArg: b or den is below 1.
func Ratio(a Int, b int64, num, den int64) (int, api.Errno) {
	if b < 1 || den < 1 {
		return 0, api.ErrArg
	}
	return compare(scale(extend(a), uint64(den)), scale(extend(Of(num)), uint64(b))), api.OK
}

// Sum tells all of l together.
func Sum(l ...int64) Int {
	return fold(l, Int{}, plus)
}

// plus tells have and n together, where it is known that 128 bits hold it: 2^31 numbers come to 2^94 at most.
func plus(have Int, n int64) Int {
	lo, carry := bits.Add64(have.Lo, uint64(n), 0)
	return Int{Hi: have.Hi + n>>63 + int64(carry), Lo: lo}
}
