package wide_test

import (
	"math"
	"math/big"
	"slices"
	"strings"
	"testing"

	"belfry/api"
	"belfry/wide"
)

// The tests here are of P101, with P2 to P4 as far as they bear on it.

var (
	greatest = wide.Int{Hi: math.MaxInt64, Lo: math.MaxUint64}
	least    = wide.Int{Hi: math.MinInt64}
)

// written: numbers about the edges of 64 and of 128 bits, with their texts.
var written = []struct {
	n wide.Int
	s string
}{
	{least, "-170141183460469231731687303715884105728"},
	{wide.Int{Hi: math.MinInt64, Lo: 1}, "-170141183460469231731687303715884105727"},
	{wide.Int{Hi: -2, Lo: math.MaxUint64}, "-18446744073709551617"},
	{wide.Int{Hi: -1}, "-18446744073709551616"},
	{wide.Int{Hi: -1, Lo: 1}, "-18446744073709551615"},
	{wide.Int{Hi: -1, Lo: 1<<63 - 1}, "-9223372036854775809"},
	{wide.Int{Hi: -1, Lo: 1 << 63}, "-9223372036854775808"},
	{wide.Int{Hi: -1, Lo: math.MaxUint64 - 41}, "-42"},
	{wide.Int{Hi: -1, Lo: math.MaxUint64}, "-1"},
	{wide.Int{}, "0"},
	{wide.Int{Lo: 1}, "1"},
	{wide.Int{Lo: 10}, "10"},
	{wide.Int{Lo: 1<<63 - 1}, "9223372036854775807"},
	{wide.Int{Lo: 1 << 63}, "9223372036854775808"},
	{wide.Int{Lo: 9999999999999999999}, "9999999999999999999"},
	{wide.Int{Lo: 10000000000000000000}, "10000000000000000000"},
	{wide.Int{Lo: 10000000000000000001}, "10000000000000000001"},
	{wide.Int{Lo: math.MaxUint64}, "18446744073709551615"},
	{wide.Int{Hi: 1}, "18446744073709551616"},
	{wide.Int{Hi: 1, Lo: 1}, "18446744073709551617"},
	{wide.Int{Hi: 542101086242752217, Lo: 68739955140067328}, "10000000000000000000000000000000000000"},
	{wide.Int{Hi: math.MaxInt64, Lo: math.MaxUint64 - 1}, "170141183460469231731687303715884105726"},
	{greatest, "170141183460469231731687303715884105727"},
}

// narrows: numbers of 64 bits, the edges among them.
var narrows = []int64{math.MinInt64, math.MinInt64 + 1, -1 << 62, -1<<32 - 1, -1 << 32, -10, -3, -2, -1, 0, 1, 2, 3, 7, 10, 1<<32 - 1, 1 << 32, 1 << 62, math.MaxInt64 - 1, math.MaxInt64}

// bigOf tells n by the library's means.
func bigOf(n wide.Int) *big.Int {
	b := new(big.Int).Lsh(big.NewInt(n.Hi), 64)
	return b.Add(b, new(big.Int).SetUint64(n.Lo))
}

// numbers tells those of written, and some between them.
func numbers() []wide.Int {
	var l []wide.Int
	for _, w := range written {
		l = append(l, w.n)
	}
	for _, hi := range narrows {
		for _, lo := range []uint64{0, 1, 1<<63 - 1, 1 << 63, math.MaxUint64} {
			l = append(l, wide.Int{Hi: hi, Lo: lo})
		}
	}
	return l
}

// wantSum holds what a call said against a sum by the library's means.
func wantSum(t *testing.T, what string, got wide.Int, e api.Errno, want *big.Int) {
	t.Helper()
	if want.Cmp(bigOf(least)) < 0 || want.Cmp(bigOf(greatest)) > 0 {
		if e != api.ErrOver || got != (wide.Int{}) {
			t.Errorf("%s: %v, %v; want nought and ErrOver", what, got, e)
		}
		return
	}
	if e != api.OK || bigOf(got).Cmp(want) != 0 {
		t.Errorf("%s: %v, %v; want %v", what, got, e, want)
	}
}

func TestOf(t *testing.T) {
	for _, n := range narrows {
		if got := wide.Of(n); bigOf(got).Cmp(big.NewInt(n)) != 0 {
			t.Errorf("Of(%d): %v", n, got)
		}
	}
	if got := wide.Of(math.MinInt64); got != (wide.Int{Hi: -1, Lo: 1 << 63}) {
		t.Errorf("Of the least: %v", got)
	}
	if got := wide.Of(0); got != (wide.Int{}) {
		t.Errorf("Of(0): %v", got)
	}
}

func TestAdd(t *testing.T) {
	for _, a := range numbers() {
		for _, b := range numbers() {
			got, e := wide.Add(a, b)
			wantSum(t, wide.Text(a)+" + "+wide.Text(b), got, e, new(big.Int).Add(bigOf(a), bigOf(b)))
		}
	}
}

func TestAddAtTheEdges(t *testing.T) {
	for _, x := range []struct {
		a, b, want wide.Int
		e          api.Errno
	}{
		{wide.Of(2), wide.Of(3), wide.Of(5), api.OK},
		{wide.Int{Lo: math.MaxUint64}, wide.Of(1), wide.Int{Hi: 1}, api.OK},
		{wide.Int{Hi: 1}, wide.Of(-1), wide.Int{Lo: math.MaxUint64}, api.OK},
		{wide.Of(math.MaxInt64), wide.Of(1), wide.Int{Lo: 1 << 63}, api.OK},
		{greatest, wide.Of(0), greatest, api.OK},
		{greatest, wide.Of(1), wide.Int{}, api.ErrOver},
		{greatest, greatest, wide.Int{}, api.ErrOver},
		{least, wide.Of(-1), wide.Int{}, api.ErrOver},
		{least, least, wide.Int{}, api.ErrOver},
		{least, greatest, wide.Of(-1), api.OK},
		{least, wide.Of(1), wide.Int{Hi: math.MinInt64, Lo: 1}, api.OK},
	} {
		if got, e := wide.Add(x.a, x.b); got != x.want || e != x.e {
			t.Errorf("%v + %v: %v, %v; want %v, %v", x.a, x.b, got, e, x.want, x.e)
		}
	}
}

func TestNeg(t *testing.T) {
	for _, a := range numbers() {
		got, e := wide.Neg(a)
		wantSum(t, "-"+wide.Text(a), got, e, new(big.Int).Neg(bigOf(a)))
	}
	if got, e := wide.Neg(least); got != (wide.Int{}) || e != api.ErrOver {
		t.Errorf("the least: %v, %v", got, e)
	}
	if got, e := wide.Neg(greatest); got != (wide.Int{Hi: math.MinInt64, Lo: 1}) || e != api.OK {
		t.Errorf("the greatest: %v, %v", got, e)
	}
	if got, e := wide.Neg(wide.Int{}); got != (wide.Int{}) || e != api.OK {
		t.Errorf("nought: %v, %v", got, e)
	}
}

func TestMul(t *testing.T) {
	for _, a := range narrows {
		for _, b := range narrows {
			want := new(big.Int).Mul(big.NewInt(a), big.NewInt(b))
			if got := wide.Mul(a, b); bigOf(got).Cmp(want) != 0 {
				t.Errorf("%d times %d: %v; want %v", a, b, got, want)
			}
		}
	}
	if got := wide.Mul(math.MinInt64, math.MinInt64); got != (wide.Int{Hi: 1 << 62}) {
		t.Errorf("the least by itself: %v", got)
	}
}

func TestCmp(t *testing.T) {
	for i, a := range written {
		for j, b := range written {
			want := 0
			if i < j {
				want = -1
			} else if i > j {
				want = 1
			}
			if got := wide.Cmp(a.n, b.n); got != want {
				t.Errorf("%s to %s: %d; want %d", a.s, b.s, got, want)
			}
		}
	}
	for _, a := range numbers() {
		for _, b := range numbers() {
			if got, want := wide.Cmp(a, b), bigOf(a).Cmp(bigOf(b)); got != want {
				t.Errorf("%v to %v: %d; want %d", a, b, got, want)
			}
		}
	}
}

func TestText(t *testing.T) {
	for _, w := range written {
		if got := wide.Text(w.n); got != w.s {
			t.Errorf("%v: %s; want %s", w.n, got, w.s)
		}
	}
	for _, n := range numbers() {
		if got, want := wide.Text(n), bigOf(n).String(); got != want {
			t.Errorf("%v: %s; want %s", n, got, want)
		}
	}
}

func TestParse(t *testing.T) {
	for _, w := range written {
		if got, e := wide.Parse(w.s); got != w.n || e != api.OK {
			t.Errorf("%s: %v, %v; want %v", w.s, got, e, w.n)
		}
	}
	for _, n := range numbers() {
		if got, e := wide.Parse(bigOf(n).String()); got != n || e != api.OK {
			t.Errorf("%v: %v, %v", n, got, e)
		}
	}
	// Each count of digits, of either sign, up to the last one that fits.
	for i := 1; i <= 38; i++ {
		for _, s := range []string{strings.Repeat("9", i), "-" + strings.Repeat("9", i), "1" + strings.Repeat("0", i), "-1" + strings.Repeat("0", i)} {
			if got, e := wide.Parse(s); e != api.OK || wide.Text(got) != s {
				t.Errorf("%s: %v, %v", s, got, e)
			}
		}
	}
}

// refused sees to it that Parse answers e to each of l, and nought beside it.
func refused(t *testing.T, e api.Errno, l ...string) {
	t.Helper()
	for _, s := range l {
		if got, err := wide.Parse(s); got != (wide.Int{}) || err != e {
			t.Errorf("%q: %v, %v; want nought and %v", s, got, err, e)
		}
	}
}

func TestParseRefusesWhatIsNoNumber(t *testing.T) {
	refused(t, api.ErrForm, "", "-", "--", "-0", "00", "-00", "01", "-01", "0123", "+1", "+", "--1", "-+1", "1-", "1-1",
		" 1", "1 ", "1 1", "\t1", "1\n", "1\x00", "\x001", "1_000", "1,0", "1.0", ".", "1e3", "0x1f", "a", "1a", "a1", "1a1",
		"٣", "1٣1", "１", "−1", "\xff", "1\xff1", "/", ":", "1/", "1:", "NaN", "Inf", "nil")
}

func TestParseRefusesWhatIsTooGreat(t *testing.T) {
	refused(t, api.ErrOver,
		"170141183460469231731687303715884105728", "-170141183460469231731687303715884105729",
		"170141183460469231731687303715884105730", "-170141183460469231731687303715884105730",
		"340282366920938463463374607431768211455", "340282366920938463463374607431768211456", "-340282366920938463463374607431768211456",
		strings.Repeat("9", 39), "-"+strings.Repeat("9", 39), "1"+strings.Repeat("0", 39), "-1"+strings.Repeat("0", 39),
		"6277101735386680763835789423207666416102355444464034512896", // 2^192
		"6277101735386680763835789423207666416102355444464034512897", "-6277101735386680763835789423207666416102355444464034512897",
		strings.Repeat("1", 1<<20), "-"+strings.Repeat("1", 1<<20))
}

func TestParseTellsOfTheFormFirst(t *testing.T) {
	long := strings.Repeat("9", 400)
	refused(t, api.ErrForm, long+"x", "0"+long, "-0"+long, "+"+long, long+" ", long+"-"+long, "170141183460469231731687303715884105728 ")
}

func TestRatio(t *testing.T) {
	for _, a := range numbers() {
		for _, b := range []int64{1, 2, 3, 1 << 32, math.MaxInt64 - 1, math.MaxInt64} {
			for _, num := range narrows {
				for _, den := range []int64{1, 2, 3, 1<<32 + 1, math.MaxInt64 - 1, math.MaxInt64} {
					want := new(big.Rat).SetFrac(bigOf(a), big.NewInt(b)).Cmp(big.NewRat(num, den))
					if got, e := wide.Ratio(a, b, num, den); got != want || e != api.OK {
						t.Fatalf("%v by %d, %d by %d: %d, %v; want %d", a, b, num, den, got, e, want)
					}
				}
			}
		}
	}
}

func TestRatioIsExact(t *testing.T) {
	// A third of 3*10^18+1 differs from 10^18 in a place that no float has.
	for _, x := range []struct {
		a           wide.Int
		b, num, den int64
		want        int
	}{
		{wide.Of(1), 3, 2, 6, 0},
		{wide.Of(-1), 3, -2, 6, 0},
		{wide.Of(0), 5, 0, 7, 0},
		{wide.Of(-1), 2, 1, 2, -1},
		{wide.Of(1), 2, -1, 2, 1},
		{wide.Of(3000000000000000001), 3, 1000000000000000000, 1, 1},
		{wide.Of(2999999999999999999), 3, 1000000000000000000, 1, -1},
		{wide.Of(3000000000000000000), 3, 1000000000000000000, 1, 0},
		{wide.Mul(math.MaxInt64, math.MaxInt64), math.MaxInt64, math.MaxInt64, 1, 0},
		{wide.Mul(math.MaxInt64, math.MinInt64), math.MaxInt64, math.MinInt64, 1, 0},
		{greatest, 1, math.MaxInt64, 1, 1},
		{least, 1, math.MinInt64, 1, -1},
		{greatest, math.MaxInt64, math.MaxInt64, math.MaxInt64, 1},
	} {
		if got, e := wide.Ratio(x.a, x.b, x.num, x.den); got != x.want || e != api.OK {
			t.Errorf("%v by %d, %d by %d: %d, %v; want %d", x.a, x.b, x.num, x.den, got, e, x.want)
		}
	}
}

func TestRatioRefuses(t *testing.T) {
	for _, a := range []wide.Int{least, wide.Of(-1), {}, wide.Of(1), greatest} {
		for _, bad := range []int64{0, -1, -2, math.MinInt64} {
			for _, p := range [][2]int64{{bad, 1}, {1, bad}, {bad, bad}, {bad, math.MaxInt64}, {math.MaxInt64, bad}} {
				if got, e := wide.Ratio(a, p[0], 1, p[1]); got != 0 || e != api.ErrArg {
					t.Errorf("%v by %d, 1 by %d: %d, %v; want 0 and ErrArg", a, p[0], p[1], got, e)
				}
			}
		}
	}
}

func TestSum(t *testing.T) {
	for _, l := range [][]int64{nil, {}, {0}, {5}, {-5}, {1, 2, 3}, {1, -1}, {-1, 1}, {-1, -1, -1}, {math.MaxInt64, 1}, {math.MinInt64, -1}, {math.MinInt64, math.MaxInt64}, narrows, slices.Repeat(narrows, 50)} {
		kept := slices.Clone(l)
		want := new(big.Int)
		for _, n := range l {
			want.Add(want, big.NewInt(n))
		}
		if got := wide.Sum(l...); bigOf(got).Cmp(want) != 0 {
			t.Errorf("%v: %v; want %v", l, got, want)
		}
		if !slices.Equal(l, kept) {
			t.Errorf("%v was changed: %v", kept, l)
		}
	}
	if got := wide.Sum(); got != (wide.Int{}) {
		t.Errorf("of none: %v", got)
	}
}

func TestSumOfManyGoesFromLimbToLimb(t *testing.T) {
	const many = 1 << 16
	for _, n := range []int64{math.MinInt64, -1, 1, math.MaxInt64} {
		if got, want := wide.Sum(slices.Repeat([]int64{n}, many)...), wide.Mul(n, many); got != want {
			t.Errorf("%d times %d: %v; want %v", many, n, got, want)
		}
	}
}

func TestSumLeavesSpareRoom(t *testing.T) {
	room := []int64{1, 2, 3, 4}
	if got := wide.Sum(room[:2]...); got != wide.Of(3) || !slices.Equal(room, []int64{1, 2, 3, 4}) {
		t.Errorf("%v, %v", got, room)
	}
}
