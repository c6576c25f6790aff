package round_test

import (
	"math/big"
	"slices"
	"strconv"
	"strings"
	"testing"

	"abacist/api"
	"abacist/decimal"
	"abacist/round"
)

const (
	low  = -1 << 63
	high = 1<<63 - 1
)

// names is the chapter's, each at its mode's number.
var names = []string{"down", "up", "floor", "ceil", "halfdown", "halfup", "halfeven"}

// dec is a decimal from its text.
func dec(t testing.TB, text string) decimal.Dec {
	t.Helper()
	d, err := decimal.Parse(text)
	if err != api.OK {
		t.Fatalf("%s: %d", text, err)
	}
	return d
}

// wrong is what is no decimal: its scale, one of its digits, or both.
func wrong() []decimal.Dec {
	var l []decimal.Dec
	for _, n := range []int{-1, -1000, 1001, 1<<32 + 5, -1<<32 + 5, low, high} {
		l = append(l, decimal.Dec{Scale: n}, decimal.Dec{Neg: true, L: []int{1, 2}, Scale: n}, decimal.Dec{L: []int{n}, Scale: n},
			decimal.Dec{L: []int{n, 1, 2}, Scale: 2}, decimal.Dec{Neg: true, L: []int{1, n, 2}, Scale: 1000}, decimal.Dec{L: []int{0, 0, n}})
	}
	return append(l, decimal.Dec{L: []int{10}}, decimal.Dec{L: []int{0, 0, 0, 10}, Scale: 3})
}

// each tells every decimal of up to so many digits and such a scale, of both
// signs, those with noughts ahead, and at the end, too.
func each(digits, scale int, tell func(d decimal.Dec)) {
	var grow func(l []int)
	grow = func(l []int) {
		for s := range scale + 1 {
			tell(decimal.Dec{L: slices.Clone(l), Scale: s})
			tell(decimal.Dec{Neg: true, L: slices.Clone(l), Scale: s})
		}
		for x := 0; x < 10 && len(l) < digits; x++ {
			grow(append(slices.Clone(l), x))
		}
	}
	grow(nil)
}

// great is decimals of many digits, and of great scales, among them such as
// stand in the middle of two, or next to it, with what is cut off from 1 digit
// to 1000.
func great(t testing.TB) []decimal.Dec {
	var l []decimal.Dec
	for _, n := range []int{1, 2, 19, 64, 999, 1000} {
		for i, behind := range []string{strings.Repeat("0", n-1) + "1", strings.Repeat("4", n-1) + "9", "4" + strings.Repeat("9", n-1),
			"5" + strings.Repeat("0", n-1), "5" + strings.Repeat("0", max(n-2, 0)) + "1", strings.Repeat("9", n), strings.Repeat("0", n)} {
			for k, ahead := range []string{"0", "2", "0007", strings.Repeat("9", 70), "1" + strings.Repeat("0", 1100)} {
				d := dec(t, ahead+"."+behind)
				d.Neg = (i+k)%2 == 0
				l = append(l, d, decimal.Dec{Neg: !d.Neg, L: d.L, Scale: d.Scale})
			}
		}
	}
	return l
}

func ten(n int) *big.Int { return new(big.Int).Exp(big.NewInt(10), big.NewInt(int64(n)), nil) }

// places is how many of a scale's last place a decimal is; the scale is not
// less than its own.
func places(d decimal.Dec, scale int) *big.Int {
	b := []byte{'0'}
	for _, x := range d.L {
		b = append(b, '0'+byte(x))
	}
	n, _ := new(big.Int).SetString(string(b), 10)
	if d.Neg {
		n.Neg(n)
	}
	return n.Mul(n, ten(scale-d.Scale))
}

// of is the decimal of a scale that is so many of its last place.
func of(n *big.Int, scale int) decimal.Dec {
	d := decimal.Dec{Neg: n.Sign() < 0, Scale: scale}
	for _, b := range []byte(strings.TrimLeft(new(big.Int).Abs(n).String(), "0")) {
		d.L = append(d.L, int(b)-'0')
	}
	return d
}

// rounded is a decimal rounded, by the chapter's words: of the two next ones,
// the lesser and the greater, each mode says which.
func rounded(d decimal.Dec, scale, mode int) decimal.Dec {
	fine := max(d.Scale, scale)
	unit, whole := ten(fine-scale), places(d, fine)
	lesser, rest := new(big.Int).DivMod(whole, unit, new(big.Int))
	if rest.Sign() == 0 {
		return of(lesser, scale)
	}
	greater := new(big.Int).Add(lesser, big.NewInt(1))
	inner, outer := lesser, greater
	if lesser.CmpAbs(greater) > 0 {
		inner, outer = greater, lesser
	}
	even, nearer := lesser, lesser
	if lesser.Bit(0) == 1 {
		even = greater
	}
	toLesser, toGreater := rest, new(big.Int).Sub(unit, rest)
	if toGreater.Cmp(toLesser) < 0 {
		nearer = greater
	}
	middle := toLesser.Cmp(toGreater) == 0
	half := func(tie *big.Int) *big.Int {
		if middle {
			return tie
		}
		return nearer
	}
	return of([]*big.Int{inner, outer, lesser, greater, half(inner), half(outer), half(even)}[mode], scale)
}

func equal(a, b decimal.Dec) bool {
	return a.Neg == b.Neg && a.Scale == b.Scale && slices.Equal(a.L, b.L)
}

// same holds an answer against a decimal and an error.
func same(t *testing.T, call string, got decimal.Dec, err api.Errno, want decimal.Dec, fails api.Errno) {
	t.Helper()
	if err != fails || !equal(got, want) {
		t.Fatalf("%s: %v, %d, not %v, %d", call, got, err, want, fails)
	}
}

// told is a call's words, for what a test says.
func told(call string, d decimal.Dec, scale, mode int) string {
	return call + " of " + decimal.Print(d) + ", " + strconv.Itoa(scale) + ", " + strconv.Itoa(mode)
}

// P7.1: the modes are numbered as the chapter says.
func TestModes(t *testing.T) {
	for i, mode := range []int{round.Down, round.Up, round.Floor, round.Ceil, round.HalfDown, round.HalfUp, round.HalfEven} {
		if mode != i {
			t.Errorf("%s: %d", names[i], mode)
		}
	}
}

// P7.1: what each mode makes of a number, as texts, in the modes' row.
func TestTo(t *testing.T) {
	for _, x := range []struct {
		d     string
		scale int
		want  string
	}{
		{"-2.5", 0, "-2 -3 -3 -2 -2 -3 -2"}, {"2.5", 0, "2 3 2 3 2 3 2"}, {"3.5", 0, "3 4 3 4 3 4 4"}, {"-3.5", 0, "-3 -4 -4 -3 -3 -4 -4"},
		{"2.4", 0, "2 3 2 3 2 2 2"}, {"-2.4", 0, "-2 -3 -3 -2 -2 -2 -2"}, {"2.6", 0, "2 3 2 3 3 3 3"}, {"-2.6", 0, "-2 -3 -3 -2 -3 -3 -3"},
		{"2.51", 0, "2 3 2 3 3 3 3"}, {"-2.49", 0, "-2 -3 -3 -2 -2 -2 -2"}, {"3.50", 0, "3 4 3 4 3 4 4"}, {"3.500000000000000000001", 0, "3 4 3 4 4 4 4"},
		{"0.5", 0, "0 1 0 1 0 1 0"}, {"-0.5", 0, "0 -1 -1 0 0 -1 0"}, {"0.05", 0, "0 1 0 1 0 0 0"}, {"-0.05", 0, "0 -1 -1 0 0 0 0"},
		{"-0.05", 1, "0.0 -0.1 -0.1 0.0 0.0 -0.1 0.0"}, {"0.15", 1, "0.1 0.2 0.1 0.2 0.1 0.2 0.2"}, {"0.004", 2, "0.00 0.01 0.00 0.01 0.00 0.00 0.00"},
		{"9.95", 1, "9.9 10.0 9.9 10.0 9.9 10.0 10.0"}, {"-99.5", 0, "-99 -100 -100 -99 -99 -100 -100"}, {"1.25", 1, "1.2 1.3 1.2 1.3 1.2 1.3 1.2"},
		{"10.5", 0, "10 11 10 11 10 11 10"}, {"0019.5", 0, "19 20 19 20 19 20 20"}, {"1.005", 2, "1.00 1.01 1.00 1.01 1.00 1.01 1.00"},
		{"2", 0, "2 2 2 2 2 2 2"}, {"-2.00", 0, "-2 -2 -2 -2 -2 -2 -2"}, {"2.50", 1, "2.5 2.5 2.5 2.5 2.5 2.5 2.5"},
		{"-7", 2, "-7.00 -7.00 -7.00 -7.00 -7.00 -7.00 -7.00"}, {"-0", 0, "0 0 0 0 0 0 0"}, {"-0.00", 1, "0.0 0.0 0.0 0.0 0.0 0.0 0.0"},
		{"9223372036854775807.5", 0, "9223372036854775807 9223372036854775808 9223372036854775807 9223372036854775808 9223372036854775807 9223372036854775808 9223372036854775808"},
	} {
		for mode, want := range strings.Fields(x.want) {
			d, err := round.To(dec(t, x.d), x.scale, mode)
			if err != api.OK || decimal.Print(d) != want {
				t.Errorf("%s of %s to %d: %v, %d", names[mode], x.d, x.scale, d, err)
			}
		}
	}
}

// P7.1: every short decimal, of few digits for its scale, and with noughts
// ahead, to every scale near its own.
func TestToEach(t *testing.T) {
	each(3, 4, func(d decimal.Dec) {
		for scale := range 6 {
			for mode := range names {
				got, err := round.To(d, scale, mode)
				same(t, told("To", d, scale, mode), got, err, rounded(d, scale, mode), api.OK)
			}
		}
	})
}

// P7.1: decimals of many digits, and to the ends of what a scale may be.
func TestToOfGreat(t *testing.T) {
	for _, d := range great(t) {
		for _, scale := range []int{0, 1, 18, d.Scale - 1, d.Scale, d.Scale + 1, 1000} {
			if scale > 1000 {
				continue
			}
			for mode := range names {
				got, err := round.To(d, scale, mode)
				same(t, told("To", d, scale, mode), got, err, rounded(d, scale, mode), api.OK)
			}
		}
	}
}

// P7.1, R2: what may not be, and what is no mode, is told ahead of a scale that
// is out of its range.
func TestToOfWrong(t *testing.T) {
	ends := []int{-1, -2, -1000, 7, 8, 1000, 1001, 1 << 32, 1<<32 + 3, -1<<32 + 3, low, low + 1, high}
	for _, w := range wrong() {
		for _, n := range append(ends, 0, 1, 6) {
			got, err := round.To(w, 0, n)
			same(t, "To of a wrong one", got, err, decimal.Dec{}, api.ErrArg)
			got, err = round.To(w, n, 0)
			same(t, "To of a wrong one", got, err, decimal.Dec{}, api.ErrArg)
			got, err = round.To(w, n, n)
			same(t, "To of a wrong one", got, err, decimal.Dec{}, api.ErrArg)
		}
	}
	for _, text := range []string{"0", "-0.00", "12", "-2.5", "0.05"} {
		d := dec(t, text)
		for mode := -1100; mode <= 1100; mode++ {
			if mode < 0 || mode > 6 {
				got, err := round.To(d, 0, mode)
				same(t, told("To", d, 0, mode), got, err, decimal.Dec{}, api.ErrArg)
			}
		}
		for _, mode := range ends {
			for _, scale := range []int{-1, 0, 1, 1000, 1001, low, high} {
				got, err := round.To(d, scale, mode)
				same(t, told("To", d, scale, mode), got, err, decimal.Dec{}, api.ErrArg)
			}
		}
		for _, scale := range []int{-1, -2, -1000, 1001, 1002, 1 << 32, 1<<32 + 3, -1<<32 + 3, low, low + 1, high} {
			for mode := range names {
				got, err := round.To(d, scale, mode)
				same(t, told("To", d, scale, mode), got, err, decimal.Dec{}, api.ErrRange)
			}
		}
		for _, scale := range []int{0, 999, 1000} {
			for mode := range names {
				got, err := round.To(d, scale, mode)
				same(t, told("To", d, scale, mode), got, err, rounded(d, scale, mode), api.OK)
			}
		}
	}
}

// P7.1: noughts at the end are no digits that a decimal needs.
func TestExact(t *testing.T) {
	for _, x := range []struct {
		d     string
		scale int
		want  bool
	}{
		{"0", 0, true}, {"-0.000", 0, true}, {"0", 1000, true}, {"2.5", 0, false}, {"2.5", 1, true}, {"2.5", 2, true}, {"-2.50", 1, true}, {"-2.50", 0, false},
		{"100", 0, true}, {"100.00", 0, true}, {"100.01", 1, false}, {"100.01", 2, true}, {"0.001", 2, false}, {"0.001", 3, true}, {"7", 1000, true},
		{"0", -1, false}, {"0", 1001, false}, {"7", -1, false}, {"7", 1001, false}, {"100", -1, false}, {"100", -2, false}, {"2.5", low, false}, {"2.5", high, false},
		{"0." + strings.Repeat("0", 999) + "1", 999, false}, {"0." + strings.Repeat("0", 999) + "1", 1000, true}, {"0." + strings.Repeat("0", 999) + "1", 1001, false},
	} {
		if is := round.Exact(dec(t, x.d), x.scale); is != x.want {
			t.Errorf("Exact(%s, %d): %t", x.d, x.scale, is)
		}
	}
	// R1: of what may not be the chapter leaves the answer open; none panics.
	for _, w := range wrong() {
		for _, scale := range []int{-1, 0, 1, 1000, 1001, w.Scale, low, high} {
			if round.Exact(w, scale) {
				t.Errorf("Exact(%v, %d)", w, scale)
			}
		}
	}
	check := func(d decimal.Dec, scale int) {
		want := scale >= 0 && scale <= 1000
		if want && scale < d.Scale {
			want = new(big.Int).Rem(places(d, d.Scale), ten(d.Scale-scale)).Sign() == 0
		}
		if is := round.Exact(d, scale); is != want {
			t.Fatalf("Exact(%v, %d): %t", d, scale, is)
		}
	}
	each(3, 4, func(d decimal.Dec) {
		for scale := -2; scale <= 6; scale++ {
			check(d, scale)
		}
	})
	for _, d := range great(t) {
		for _, scale := range []int{-1, 0, 1, d.Scale - 1, d.Scale, d.Scale + 1, 1000, 1001} {
			check(d, scale)
		}
	}
}

// P7.2: the bounds themselves are within; the answer is trim.
func TestClamp(t *testing.T) {
	for _, x := range []struct{ d, low, high, want string }{
		{"5", "0", "10", "5"}, {"-1", "0", "10", "0"}, {"11", "0", "10", "10"}, {"0", "0", "10", "0"}, {"10", "0", "10", "10"},
		{"10.00", "0", "10", "10"}, {"10.001", "0", "10.000", "10"}, {"-0.001", "0.0", "10", "0"}, {"-0", "0", "10", "0"}, {"0", "-0.00", "-0", "0"},
		{"-0", "0", "0", "0"}, {"7", "3.50", "3.5", "3.5"}, {"1", "3.50", "3.5", "3.5"}, {"3.500", "3.5", "3.50", "3.5"}, {"007.50", "-9", "9", "7.5"},
		{"-7.25", "-7.20", "-7.1", "-7.2"}, {"-7", "-7.20", "-7.10", "-7.1"}, {"-7.150", "-7.20", "-7.10", "-7.15"}, {"0", "0.010", "1", "0.01"},
		{"99999999999999999999.9", "0", "99999999999999999999.8", "99999999999999999999.8"},
	} {
		d, err := round.Clamp(dec(t, x.d), dec(t, x.low), dec(t, x.high))
		same(t, "Clamp of "+x.d, d, err, decimal.Trim(dec(t, x.want)), api.OK)
	}
	for _, x := range []struct{ d, low, high string }{
		{"5", "10", "0"}, {"5", "5.01", "5"}, {"5", "0", "-0.001"}, {"-5", "-4.9", "-5"}, {"0", "1", "-1"}, {"5", "5.1", "4.9"},
	} {
		d, err := round.Clamp(dec(t, x.d), dec(t, x.low), dec(t, x.high))
		same(t, "Clamp of "+x.d, d, err, decimal.Dec{}, api.ErrRange)
	}
}

// P7.2: each of some decimals between each two.
func TestClampEach(t *testing.T) {
	some := []decimal.Dec{{}, {Neg: true}, {Scale: 3}, {Neg: true, L: []int{5}, Scale: 1000}, {L: []int{0, 0, 5}, Scale: 1}}
	for _, text := range []string{"1", "-1", "0.99", "-0.99", "1.000", "001.010", "-001.010", "10", "-100.0", "99.9", "12345678901234567890.5"} {
		some = append(some, dec(t, text))
	}
	for _, d := range some {
		for _, a := range some {
			for _, b := range some {
				x, y, z := places(d, 1000), places(a, 1000), places(b, 1000)
				want, fails := decimal.Trim(d), api.OK
				switch {
				case y.Cmp(z) > 0:
					want, fails = decimal.Dec{}, api.ErrRange
				case x.Cmp(y) < 0:
					want = decimal.Trim(a)
				case x.Cmp(z) > 0:
					want = decimal.Trim(b)
				}
				got, err := round.Clamp(d, a, b)
				same(t, "Clamp", got, err, want, fails)
			}
		}
	}
}

// P7.2, R2: what may not be is told ahead of bounds that are the wrong way
// round.
func TestClampOfWrong(t *testing.T) {
	one, two := dec(t, "1"), dec(t, "2.5")
	for _, w := range wrong() {
		for _, x := range [][3]decimal.Dec{{w, one, two}, {one, w, two}, {one, two, w}, {w, two, one}, {w, w, one}, {w, one, w}, {one, w, w}, {w, w, w}} {
			got, err := round.Clamp(x[0], x[1], x[2])
			same(t, "Clamp of a wrong one", got, err, decimal.Dec{}, api.ErrArg)
		}
	}
}

// P7.3: a name for each mode, and a mode for each name; no other ones.
func TestNameAndMode(t *testing.T) {
	for mode, name := range names {
		if s := round.Name(mode); s != name {
			t.Errorf("Name(%d): %q", mode, s)
		}
		if n, err := round.Mode(name); n != mode || err != api.OK {
			t.Errorf("Mode(%q): %d, %d", name, n, err)
		}
		for _, other := range []string{strings.ToUpper(name), strings.ToUpper(name[:1]) + name[1:], name[1:], name[:len(name)-1], name + " ", " " + name, name + "\x00", name + name} {
			if n, err := round.Mode(other); n != 0 || err != api.ErrNone {
				t.Errorf("Mode(%q): %d, %d", other, n, err)
			}
		}
	}
	for _, other := range []string{"", " ", "half", "even", "half up", "half-up", "halfceil", "nearest", "0", "6", "\xff", "up\n"} {
		if n, err := round.Mode(other); n != 0 || err != api.ErrNone {
			t.Errorf("Mode(%q): %d, %d", other, n, err)
		}
	}
	for mode := -1100; mode <= 1100; mode++ {
		if mode < 0 || mode > 6 {
			if s := round.Name(mode); s != "" {
				t.Errorf("Name(%d): %q", mode, s)
			}
		}
	}
	for _, mode := range []int{low, low + 1, high, 1 << 8, 1 << 32, 1<<32 + 5, -1<<32 + 5} {
		if s := round.Name(mode); s != "" {
			t.Errorf("Name(%d): %q", mode, s)
		}
	}
}

// P7.4: rounded again a decimal stays; it changes by less than one of the last
// place, in the half modes by no more than a half.
func TestRoundedStays(t *testing.T) {
	check := func(d decimal.Dec, scale, mode int) {
		once, err := round.To(d, scale, mode)
		if err != api.OK || !decimal.May(once) || !round.Exact(once, scale) {
			t.Fatalf("%s: %v, %d", told("To", d, scale, mode), once, err)
		}
		for again := range names {
			twice, err := round.To(once, scale, again)
			same(t, told("To", once, scale, again), twice, err, once, api.OK)
		}
		rest, _ := decimal.Sub(once, d)
		rest.Neg = false
		unit, most := decimal.Dec{L: []int{1}, Scale: scale}, 0
		if mode >= round.HalfDown {
			rest, _ = decimal.Times(rest, 2)
			most = 1
		}
		if decimal.Compare(rest, unit) >= most {
			t.Fatalf("%s: %v", told("To", d, scale, mode), once)
		}
	}
	each(2, 4, func(d decimal.Dec) {
		for scale := range 5 {
			for mode := range names {
				check(d, scale, mode)
			}
		}
	})
	for i, d := range great(t) {
		check(d, max(d.Scale-1, 0), i%len(names))
		check(d, 0, i%len(names))
	}
}

// P7.4: of two numbers the lesser one is never greater when they are rounded.
func TestRoundingKeepsOrder(t *testing.T) {
	var row []decimal.Dec
	for n := -1250; n <= 1250; n++ {
		row = append(row, of(big.NewInt(int64(n)), 2))
	}
	for scale := range 4 {
		for mode := range names {
			was, _ := round.To(row[0], scale, mode)
			for _, d := range row {
				is, err := round.To(d, scale, mode)
				if err != api.OK || decimal.Compare(was, is) > 0 {
					t.Fatalf("%s: %v behind %v, %d", told("To", d, scale, mode), is, was, err)
				}
				was = is
			}
		}
	}
}

// made is every list that a call answers.
func made(d, least, most decimal.Dec) [][]int {
	var l [][]int
	for scale := range 4 {
		for mode := range names {
			x, _ := round.To(d, scale, mode)
			l = append(l, x.L)
		}
	}
	for _, x := range [][3]decimal.Dec{{d, least, most}, {least, d, most}, {most, least, d}} {
		c, _ := round.Clamp(x[0], x[1], x[2])
		l = append(l, c.L)
	}
	return l
}

// R4: what is handed in stays, its spare room too; what is answered is new.
func TestListsAreNew(t *testing.T) {
	room := func(d decimal.Dec) (decimal.Dec, []int) {
		wide := append(slices.Clone(d.L), 7, 7, 7, 7)
		d.L = wide[:len(d.L)]
		return d, wide
	}
	for _, text := range []string{"12", "-12.5", "9.99", "-0.05", "99.5", "-10.00", "0.4"} {
		d, wideD := room(dec(t, text))
		least, wideLeast := room(dec(t, "-123.45"))
		most, wideMost := room(dec(t, "123.45"))
		was := [][]int{slices.Clone(wideD), slices.Clone(wideLeast), slices.Clone(wideMost)}
		stay := func() {
			t.Helper()
			if !slices.Equal(wideD, was[0]) || !slices.Equal(wideLeast, was[1]) || !slices.Equal(wideMost, was[2]) {
				t.Fatalf("%s: %d, %d, %d", text, wideD, wideLeast, wideMost)
			}
		}
		first := made(d, least, most)
		round.Exact(d, 0)
		round.Exact(d, 3)
		stay()
		for i, l := range first {
			for k := range l {
				l[k] = -100 - i
			}
			_ = append(l, -500-i)
		}
		stay()
		for i, l := range first {
			for _, x := range l {
				if x != -100-i {
					t.Fatalf("%d: shares its memory with another one", l)
				}
			}
		}
		// R5: and asked once more, as much is told.
		for i, l := range made(d, least, most) {
			if len(l) != len(first[i]) || len(l) > 0 && slices.Min(l) < 0 {
				t.Fatalf("%d", l)
			}
		}
	}
}

// R1: decimals of many digits end soon.
func TestLong(t *testing.T) {
	const n = 1 << 20
	d := dec(t, "-"+strings.Repeat("9", n)+".5"+strings.Repeat("0", 999))
	for mode, up := range []bool{false, true, true, false, false, true, true} {
		got, err := round.To(d, 0, mode)
		if err != api.OK || !got.Neg || got.Scale != 0 || up && (len(got.L) != n+1 || got.L[0] != 1) || !up && (len(got.L) != n || got.L[n-1] != 9) {
			t.Fatal(names[mode], len(got.L), got.Scale, err)
		}
	}
	if round.Exact(d, 0) || !round.Exact(d, 1) {
		t.Fatal("Exact")
	}
	got, err := round.Clamp(d, d, decimal.Dec{})
	same(t, "Clamp", got, err, decimal.Trim(d), api.OK)
}

func BenchmarkTo(b *testing.B) {
	d := dec(b, "-"+strings.Repeat("7", 64)+"."+strings.Repeat("3", 64))
	for range b.N {
		round.To(d, 2, round.HalfEven)
	}
}
