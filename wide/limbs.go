package wide

import (
	"cmp"
	"math/bits"

	"belfry/api"
)

// limbs is a number with a sign in two's complement, the lowest limb first.
// Three of them hold what Ratio makes (128 bits by 63) and every number of mostDigits.
type limbs [3]uint64

// mostDigits is how many decimal digits a number of 128 bits has at most.
const mostDigits = 39

// pair is two limbs of one height.
type pair struct{ a, b uint64 }

// chain goes from limb to limb: what is made so far, the newest on top, and what is carried.
type chain struct {
	made  limbs
	carry uint64
}

// fold hands what it has from one of l to the next and tells what is there behind the last.
func fold[L, A any](l []L, have A, step func(A, L) A) A {
	for _, x := range l {
		have = step(have, x)
	}
	return have
}

// then tells the chain with one limb more; the lowest falls out once there are three above it.
func (c chain) then(limb, carry uint64) chain {
	return chain{limbs{c.made[1], c.made[2], limb}, carry}
}

// extend tells a with its sign filled up.
func extend(a Int) limbs { return limbs{a.Lo, uint64(a.Hi), uint64(a.Hi >> 63)} }

// narrow tells m in 128 bits; ErrOver: they do not hold it.
func narrow(m limbs) (Int, api.Errno) {
	a := Int{Hi: int64(m[1]), Lo: m[0]}
	if extend(a) != m {
		return Int{}, api.ErrOver
	}
	return a, api.OK
}

// pairs tells the limbs of a beside those of b, the lowest first.
func pairs(a, b limbs) []pair {
	return []pair{{a[0], b[0]}, {a[1], b[1]}, {a[2], b[2]}}
}

// add tells a and b together.
func add(a, b limbs) limbs {
	return fold(pairs(a, b), chain{}, func(c chain, p pair) chain {
		return c.then(bits.Add64(p.a, p.b, c.carry))
	}).made
}

// scale tells a times f; as f has no sign, the limbs above the top one may be left away.
func scale(a limbs, f uint64) limbs {
	return fold(a[:], chain{}, func(c chain, x uint64) chain {
		hi, lo := bits.Mul64(x, f)
		lo, more := bits.Add64(lo, c.carry, 0)
		return c.then(lo, hi+more)
	}).made
}

// compare tells how a stands to b: -1, 0, 1.
func compare(a, b limbs) int {
	signed := cmp.Compare(int64(a[2]), int64(b[2]))
	return cmp.Or(signed, fold(pairs(a, b), 0, func(have int, p pair) int {
		return cmp.Or(cmp.Compare(p.a, p.b), have) // a higher limb overrules those below it
	}))
}
