package span_test

import (
	"math"
	"strings"
	"testing"

	"belfry/api"
	"belfry/span"
)

// written: how long, about where units begin and end, with the texts.
var written = []struct {
	d int64
	s string
}{
	{0, "0"},
	{1, "1ms"},
	{10, "10ms"},
	{999, "999ms"},
	{1000, "1s"},
	{1001, "1s1ms"},
	{10100, "10s100ms"},
	{59000, "59s"},
	{59999, "59s999ms"},
	{60000, "1m"},
	{60001, "1m1ms"},
	{61000, "1m1s"},
	{300007, "5m7ms"},
	{3540000, "59m"},
	{3599999, "59m59s999ms"},
	{3600000, "1h"},
	{3600001, "1h1ms"},
	{3601000, "1h1s"},
	{3660000, "1h1m"},
	{82800000, "23h"},
	{86399999, "23h59m59s999ms"},
	{86400000, "1d"},
	{86400001, "1d1ms"},
	{86401000, "1d1s"},
	{86460000, "1d1m"},
	{90000000, "1d1h"},
	{183845006, "2d3h4m5s6ms"},
	{864000000, "10d"},
	{8640000000, "100d"},
	{31536000000, "365d"},
	{4398019200000, "50903d"},
	{most - 1, "50903d7h35m11s103ms"},
	{most, "50903d7h35m11s104ms"},
}

func TestText(t *testing.T) {
	for _, w := range written {
		if got := span.Text(w.d); got != w.s {
			t.Errorf("%d: %s; want %s", w.d, got, w.s)
		}
	}
}

func TestTextOfWhatNoSpanIs(t *testing.T) {
	for _, w := range written[1:] {
		if got := span.Text(-w.d); got != "-"+w.s {
			t.Errorf("%d: %s; want -%s", -w.d, got, w.s)
		}
	}
	for d, s := range map[int64]string{
		most + 1:           "50903d7h35m11s105ms",
		math.MaxInt64:      "106751991167d7h12m55s807ms",
		math.MinInt64 + 1:  "-106751991167d7h12m55s807ms",
		math.MinInt64:      "-106751991167d7h12m55s808ms",
		-most - 1:          "-50903d7h35m11s105ms",
		86400000 * 1000000: "1000000d",
	} {
		if got := span.Text(d); got != s {
			t.Errorf("%d: %s; want %s", d, got, s)
		}
	}
}

func TestParse(t *testing.T) {
	for _, w := range written {
		if got, e := span.Parse(w.s); got != w.d || e != api.OK {
			t.Errorf("%s: %d, %v; want %d", w.s, got, e, w.d)
		}
	}
}

// TestParseReadsWhatTextWrites goes through many times, those about each unit's ends among them.
func TestParseReadsWhatTextWrites(t *testing.T) {
	back := func(d int64) {
		t.Helper()
		if got, e := span.Parse(span.Text(d)); got != d || e != api.OK {
			t.Errorf("%d: %s: %d, %v", d, span.Text(d), got, e)
		}
	}
	for d := int64(0); d < 200000; d++ {
		back(d)
		back(most - d)
	}
	for _, size := range []int64{1000, 60000, 3600000, 86400000} {
		for n := int64(1); n < 200; n++ {
			for near := int64(-2); near <= 2; near++ {
				back(n*size + near)
			}
		}
	}
	for d := int64(1); d < most; d += d/1000 + 1 {
		back(d)
	}
}

// refused sees to it that Parse answers e to each of l, and 0 beside it.
func refused(t *testing.T, e api.Errno, l ...string) {
	t.Helper()
	for _, s := range l {
		if got, err := span.Parse(s); got != 0 || err != e {
			t.Errorf("%.99q: %d, %v; want 0 and %v", s, got, err, e)
		}
	}
}

func TestParseRefusesWhatTextDoesNotWrite(t *testing.T) {
	// No number, no unit, or neither.
	refused(t, api.ErrForm, "", "-", "+", " ", "5", "10", "d", "h", "m", "s", "ms", "dh", "1dh", "d1h", "1d5", "1ms5", "5 ", "\x00", "\xff")
	// Leading noughts, parts of 0.
	refused(t, api.ErrForm, "00", "01", "-0", "0d", "0h", "0m", "0s", "0ms", "00s", "01s", "1d01h", "001ms", "1d0h", "1d0s", "0d1h", "1s0ms", "00d", "01d", "0x1s")
	// More than goes into the unit ahead, that one being there or not.
	refused(t, api.ErrForm, "24h", "25h", "60m", "60s", "1000ms", "1d24h", "1h60m", "1m60s", "1s1000ms", "1d60m", "1h60s", "1d1000ms", "99h", "999s", "9999ms", "100m")
	// Another order, a unit twice.
	refused(t, api.ErrForm, "1h1d", "1m1h", "1s1m", "1ms1s", "1ms1m", "1ms1d", "1d1d", "1h1h", "1m1m", "1s1s", "1ms1ms", "1d2h1d", "1m1s1m")
	// Signs, blanks, other words, other digits.
	refused(t, api.ErrForm, "-1s", "+1s", "--1s", "1-s", "1s-1ms", "1d-1h", "1d+1h", " 1s", "1s ", "1 s", "1s 1ms", "\t1s", "1s\n", "1s\x00", "\x001s", "1_0s", "1,5s", "1.5s", "1e3s", "0x1s",
		"1D", "1H", "1M", "1S", "1MS", "1Ms", "1mS", "1x", "1mss", "1sm", "1sms", "1ds", "1dms1s", "1w", "1y", "1us", "1ns", "1min", "1sec", "1day", "1days", "1:1", "a", "a1s", "1sa", "1s1", "1m1", "1m1s1",
		"٣s", "１s", "1ｓ", "1\xffs", "1s\xff", "/s", ":s", "ms1", "s1")
}

func TestParseRefusesWhatIsTooGreat(t *testing.T) {
	nines := strings.Repeat("9", 400)
	refused(t, api.ErrArg,
		"50903d7h35m11s105ms", "50903d7h35m12s", "50903d7h36m", "50903d8h", "50903d23h59m59s999ms", "50904d", "50904d1ms", "99999d", "100000d",
		// About where the milliseconds leave 63 bits and 64 bits.
		"106751991167d7h12m55s807ms", "106751991167d7h12m55s808ms", "106751991168d", "213503982334d14h25m51s615ms", "213503982334d14h25m51s616ms", "213503982335d", "213503982335d23h", "213503982336d", "427007964670d",
		// About where the days do.
		"9223372036854775807d", "9223372036854775808d", "18446744073709551615d", "18446744073709551616d", "18446744073709551617d", "18446744073709551615d23h59m59s999ms", "18446744073709551616d1ms", "99999999999999999999999d",
		"340282366920938463463374607431768211456d", nines+"d", nines+"d1h", nines+"d23h59m59s999ms", "1"+strings.Repeat("0", 400)+"d",
		strings.Repeat("1", 1<<20)+"d")
	// Just not too great.
	if got, e := span.Parse("50903d7h35m11s104ms"); got != most || e != api.OK {
		t.Errorf("the greatest: %d, %v", got, e)
	}
}

func TestParseTellsOfTheFormFirst(t *testing.T) {
	nines := strings.Repeat("9", 400)
	refused(t, api.ErrForm, "50904d24h", "50904d0h", "50904d1s1m", "050904d", "-50904d", "50904d ", " 50904d", "50904", "50904dd", "50904d1",
		nines, nines+"h", nines+"m", nines+"s", nines+"ms", nines+"dx", nines+"d60s", "0"+nines+"d", "-"+nines+"d", nines+"d1", nines+"d0ms", nines+"d"+nines+"h", nines+"d"+nines+"d", "1d"+nines+"h",
		"1s"+nines+"ms", "18446744073709551616h", "18446744073709551617h", "18446744073709551617ms", "4294967297s", "4294967296m",
		strings.Repeat("1", 1<<20), strings.Repeat("1", 1<<20)+"h", strings.Repeat("d", 1<<20), strings.Repeat("1d", 1<<19))
}
