package decimal_test

import (
	"math/big"
	"regexp"
	"slices"
	"strconv"
	"strings"
	"testing"

	"abacist/api"
	"abacist/decimal"
)

const (
	low  = -1 << 63
	high = 1<<63 - 1
)

// dec is a decimal from its digits, written as a text.
func dec(neg bool, digits string, scale int) decimal.Dec {
	d := decimal.Dec{Neg: neg, Scale: scale}
	for _, b := range []byte(digits) {
		d.L = append(d.L, int(b)-48)
	}
	return d
}

// wrong is what is no decimal: its scale, one of its digits, or both.
func wrong() []decimal.Dec {
	var all []decimal.Dec
	for _, scale := range []int{-1, -2, -1000, 1001, 1002, 1 << 32, 1<<32 + 5, -1<<32 + 5, 1 << 62, low, low + 1, high} {
		all = append(all, dec(false, "", scale), dec(true, "12", scale), decimal.Dec{L: []int{10}, Scale: scale})
	}
	for _, x := range []int{-1, 10, 11, 48, 57, 1<<8 + 5, 1<<32 + 9, -1<<32 + 3, low, high} {
		for _, l := range [][]int{{x}, {x, 1, 2}, {1, x, 2}, {1, 2, x}, {0, 0, x}} {
			all = append(all, decimal.Dec{L: l}, decimal.Dec{Neg: true, L: l, Scale: 2}, decimal.Dec{L: l, Scale: 1000})
		}
	}
	return all
}

// each tells every decimal of up to so many digits and such a scale, of both
// signs, those with noughts ahead, and at the end, too.
func each(digits, scale int, tell func(d decimal.Dec)) {
	ends := 1
	for n := range digits + 1 {
		for x := range ends {
			text := strconv.Itoa(x)
			text = strings.Repeat("0", max(n-len(text), 0)) + text
			for s := range scale + 1 {
				tell(dec(false, text[:n], s))
				tell(dec(true, text[:n], s))
			}
		}
		ends *= 10
	}
}

// all is these.
func all(digits, scale int) []decimal.Dec {
	var l []decimal.Dec
	each(digits, scale, func(d decimal.Dec) { l = append(l, d) })
	return l
}

// great is decimals of many digits, and of great scales.
func great() []decimal.Dec {
	mixed := func(n, seed int) string {
		b := make([]byte, n)
		x := uint32(seed)*2654435761 + 1
		for i := range b {
			x = x*1664525 + 1013904223
			b[i] = '0' + byte(x>>16)%10
		}
		return string(b)
	}
	var l []decimal.Dec
	for seed, n := range []int{0, 1, 19, 64, 128, 999, 1000, 1001, 1500} {
		for _, scale := range []int{0, 1, 18, 64, 999, 1000} {
			neg := (seed+scale)%2 == 1
			l = append(l, dec(neg, mixed(n, seed), scale), dec(!neg, strings.Repeat("9", n), scale),
				dec(neg, "1"+strings.Repeat("0", n), scale), dec(!neg, "00"+mixed(n, scale)+"000", scale))
		}
	}
	return l
}

// mixed is short decimals and great ones, so few that each may meet each.
func mixed() []decimal.Dec {
	l := []decimal.Dec{{}, dec(true, "", 0), dec(false, "0", 3), dec(true, "000", 2), dec(false, "1", 0), dec(true, "10", 1),
		dec(false, "999", 2), dec(true, "5", 1000), dec(false, "95", 1), dec(true, "0950", 2)}
	for i, d := range great() {
		if i%3 == 0 {
			l = append(l, d)
		}
	}
	return l
}

// parts is how many parts of the greatest scale a decimal is, by the chapter's
// words: every decimal is a whole number of these.
func parts(d decimal.Dec) *big.Int {
	b := []byte{'0'}
	for _, x := range d.L {
		b = append(b, '0'+byte(x))
	}
	b = append(b, strings.Repeat("0", 1000-d.Scale)...)
	n, _ := new(big.Int).SetString(string(b), 10)
	if d.Neg {
		n.Neg(n)
	}
	return n
}

// isTrim tells whether a decimal is trim, by the chapter's words.
func isTrim(d decimal.Dec) bool {
	if len(d.L) == 0 {
		return !d.Neg && d.Scale == 0
	}
	return d.L[0] != 0 && (d.Scale == 0 || d.L[len(d.L)-1] != 0)
}

// trim is the trim decimal of so many parts.
func trim(n *big.Int) decimal.Dec {
	if n.Sign() == 0 {
		return decimal.Dec{}
	}
	text := new(big.Int).Abs(n).String()
	noughts := min(len(text)-len(strings.TrimRight(text, "0")), 1000)
	return dec(n.Sign() < 0, text[:len(text)-noughts], 1000-noughts)
}

func equal(a, b decimal.Dec) bool {
	return a.Neg == b.Neg && a.Scale == b.Scale && slices.Equal(a.L, b.L)
}

// same holds an answer against a decimal and an error.
func same(t *testing.T, call string, got decimal.Dec, err api.Errno, want decimal.Dec, fails api.Errno) {
	t.Helper()
	if err != fails || !equal(got, want) {
		t.Fatalf("%s: %v, %d, not %v, %d", call, got, err, want, fails)
	}
}

// P6.1: digits alone, and a scale from 0 to 1000, however few digits there are.
func TestMay(t *testing.T) {
	for _, d := range []decimal.Dec{{}, {L: []int{}}, {Neg: true}, {Scale: 1000}, {Scale: 1}, {Neg: true, L: []int{0, 0}, Scale: 1000},
		{L: []int{0, 1, 2, 3, 4, 5, 6, 7, 8, 9}}, {L: []int{9}, Scale: 999}, {L: make([]int, 5000)}, {L: []int{7, 0}, Scale: 1}} {
		if !decimal.May(d) {
			t.Errorf("May(%v)", d)
		}
	}
	for _, d := range wrong() {
		if decimal.May(d) {
			t.Errorf("May(%v)", d)
		}
	}
	for n := -1100; n <= 1100; n++ {
		if is := decimal.May(dec(false, "12", n)); is != (n >= 0 && n <= 1000) {
			t.Errorf("May of the scale %d: %t", n, is)
		}
		if is := decimal.May(decimal.Dec{L: []int{n}}); is != (n >= 0 && n <= 9) {
			t.Errorf("May of the digit %d: %t", n, is)
		}
	}
	each(2, 3, func(d decimal.Dec) {
		if !decimal.May(d) {
			t.Fatalf("May(%v)", d)
		}
	})
}

// P6.1: all the digits, with their noughts, and the sign, of 0 too.
func TestParse(t *testing.T) {
	for _, x := range []struct {
		s    string
		want decimal.Dec
	}{
		{"0", dec(false, "0", 0)}, {"-0", dec(true, "0", 0)}, {"7", dec(false, "7", 0)}, {"-7", dec(true, "7", 0)},
		{"007", dec(false, "007", 0)}, {"100", dec(false, "100", 0)}, {"0.5", dec(false, "05", 1)}, {"-1.25", dec(true, "125", 2)},
		{"0.00", dec(false, "000", 2)}, {"-0.0", dec(true, "00", 1)}, {"00.50", dec(false, "0050", 2)}, {"0.07", dec(false, "007", 2)},
		{"1.0", dec(false, "10", 1)}, {"-012.3450", dec(true, "0123450", 4)}, {"9876543210.0123456789", dec(false, "98765432100123456789", 10)},
		{"9223372036854775808", dec(false, "9223372036854775808", 0)},
	} {
		d, err := decimal.Parse(x.s)
		same(t, x.s, d, err, x.want, 0)
	}
}

// P6.1: none, of what is no decimal's text.
func TestParseOfWrong(t *testing.T) {
	for _, s := range []string{"", "-", ".", "-.", ".5", "-.5", "5.", "-5.", "--5", "5-", "1-2", "-1-", "+5", "1..2", "1.2.3", "1.2.", ".1.2",
		"1.-2", "1,5", " 1", "1 ", "1\n", "- 1", "1 000", "1_0", "1e3", "0x1", "a", "1a", "1.a", "1\x00", "\x00", "nan", "Inf", "1/2",
		"\u0661", "1\uff12", "1.\u0665", "\u22125", "5\xff", "\xb1", "-\xb1", "1.\xb1", "\xff", "5\ufffd", "1\u00b75", "1\uff0e5", "\u06f1",
		"5\u0301", "\U0001d7ce", "1/", "1:", "0.5/", "0.5:"} {
		d, err := decimal.Parse(s)
		same(t, strconv.QuoteToASCII(s), d, err, decimal.Dec{}, api.ErrForm)
	}
}

// P6.1: every text of up to six of what a decimal's text is made of, and of
// what it is not, against a pattern of whole texts.
func TestParseEach(t *testing.T) {
	form := regexp.MustCompile(`^(-?)([0-9]+)(?:\.([0-9]+))?$`)
	var check func(s string, more int)
	check = func(s string, more int) {
		want, fails := decimal.Dec{}, api.ErrForm
		if p := form.FindStringSubmatch(s); p != nil {
			want, fails = dec(p[1] != "", p[2]+p[3], len(p[3])), 0
		}
		d, err := decimal.Parse(s)
		same(t, s, d, err, want, fails)
		if more > 0 {
			for _, c := range "-.09+" {
				check(s+string(c), more-1)
			}
		}
	}
	check("", 6)
	for b := range 256 {
		for _, x := range [][2]string{{"", ""}, {"1", ""}, {"", "1"}, {"1", "2"}, {"-", "1"}, {"1.", ""}, {"1.2", "3"}} {
			check(x[0]+string([]byte{byte(b)})+x[1], 0)
		}
	}
}

// P6.1, R2: 1000 digits behind the point at most, any number ahead; a text that
// is none is told of first.
func TestParseOfLong(t *testing.T) {
	nines := func(n int) string { return strings.Repeat("9", n) }
	for _, n := range []int{999, 1000} {
		d, err := decimal.Parse("-0." + nines(n))
		same(t, "many behind", d, err, dec(true, "0"+nines(n), n), 0)
		d, err = decimal.Parse("12." + strings.Repeat("0", n))
		same(t, "noughts behind", d, err, dec(false, "12"+strings.Repeat("0", n), n), 0)
	}
	d, err := decimal.Parse(nines(5000) + "." + nines(1000))
	same(t, "many ahead", d, err, dec(false, nines(6000), 1000), 0)
	d, err = decimal.Parse(nines(1001))
	same(t, "no point", d, err, dec(false, nines(1001), 0), 0)
	for _, n := range []int{1001, 1002, 70000} {
		for _, s := range []string{"0." + nines(n), "-7." + strings.Repeat("0", n), nines(5000) + "." + nines(n)} {
			d, err = decimal.Parse(s)
			same(t, "too many behind", d, err, decimal.Dec{}, api.ErrRange)
			for _, w := range []string{s + "x", s + ".", s + ".5", "x" + s, "-" + s[1:] + "-", s + "\xff"} {
				d, err = decimal.Parse(w)
				same(t, "too many behind, and none", d, err, decimal.Dec{}, api.ErrForm)
			}
		}
	}
}

// P6.1: noughts ahead, so many that there is one digit at least; the point; the
// sign, of 0 too.
func TestPrint(t *testing.T) {
	for _, x := range []struct {
		d    decimal.Dec
		want string
	}{
		{decimal.Dec{}, "0"}, {decimal.Dec{L: []int{}}, "0"}, {dec(true, "", 0), "-0"}, {dec(false, "0", 0), "0"}, {dec(true, "0", 0), "-0"},
		{dec(false, "7", 2), "0.07"}, {dec(false, "7", 0), "7"}, {dec(false, "7", 1), "0.7"}, {dec(true, "7", 3), "-0.007"},
		{dec(false, "", 2), "0.00"}, {dec(true, "", 1), "-0.0"}, {dec(false, "75", 1), "7.5"}, {dec(false, "75", 2), "0.75"},
		{dec(false, "007", 0), "007"}, {dec(false, "007", 1), "00.7"}, {dec(false, "007", 2), "0.07"}, {dec(false, "007", 3), "0.007"},
		{dec(false, "000", 1), "00.0"}, {dec(true, "125", 2), "-1.25"}, {dec(false, "100", 2), "1.00"}, {dec(false, "1200", 0), "1200"},
		{dec(false, "1", 1000), "0." + strings.Repeat("0", 999) + "1"}, {dec(true, "", 1000), "-0." + strings.Repeat("0", 1000)},
		{dec(false, strings.Repeat("9", 2000), 1000), strings.Repeat("9", 1000) + "." + strings.Repeat("9", 1000)},
	} {
		if s := decimal.Print(x.d); s != x.want {
			t.Errorf("Print(%v): %q", x.d, s)
		}
	}
	for _, d := range wrong() {
		if s := decimal.Print(d); s != "" {
			t.Errorf("Print(%v): %q", d, s)
		}
	}
}

// P6.1, P6.4: what is printed has no more noughts ahead than it needs, and is
// parsed as the same number, of the same scale and sign; printed again it is
// that text.
func TestPrintAndParse(t *testing.T) {
	check := func(d decimal.Dec) {
		s := decimal.Print(d)
		back, err := decimal.Parse(s)
		if err != 0 || back.Neg != d.Neg || back.Scale != d.Scale || len(back.L) != max(len(d.L), d.Scale+1) {
			t.Fatalf("%v: %s, %v, %d", d, s, back, err)
		}
		if parts(back).Cmp(parts(d)) != 0 || decimal.Compare(back, d) != 0 {
			t.Fatalf("%v: %s, %v", d, s, back)
		}
		if ahead := len(back.L) - len(d.L); !slices.Equal(back.L[ahead:], d.L) {
			t.Fatalf("%v: %s, %v", d, s, back)
		}
		if again := decimal.Print(back); again != s {
			t.Fatalf("%s: %s", s, again)
		}
	}
	each(3, 5, check)
	for _, d := range great() {
		check(d)
	}
}

// P6.2: the trim one that is the same number.
func TestTrim(t *testing.T) {
	for _, x := range []struct{ d, want decimal.Dec }{
		{decimal.Dec{}, decimal.Dec{}}, {dec(true, "", 0), decimal.Dec{}}, {dec(true, "0", 0), decimal.Dec{}}, {dec(false, "000", 2), decimal.Dec{}},
		{dec(true, "000", 1000), decimal.Dec{}}, {dec(false, "", 1000), decimal.Dec{}}, {dec(false, "100", 0), dec(false, "100", 0)},
		{dec(false, "100", 1), dec(false, "10", 0)}, {dec(false, "100", 2), dec(false, "1", 0)}, {dec(false, "100", 3), dec(false, "1", 1)},
		{dec(true, "00120", 2), dec(true, "12", 1)}, {dec(true, "00120", 0), dec(true, "120", 0)}, {dec(false, "7", 5), dec(false, "7", 5)},
		{dec(false, "70", 5), dec(false, "7", 4)}, {dec(false, "0070", 1000), dec(false, "7", 999)}, {dec(true, "105", 2), dec(true, "105", 2)},
		{dec(false, "1"+strings.Repeat("0", 1000), 1000), dec(false, "1", 0)}, {dec(false, "1"+strings.Repeat("0", 1001), 1000), dec(false, "10", 0)},
		{dec(false, "1"+strings.Repeat("0", 999), 1000), dec(false, "1", 1)},
	} {
		same(t, "Trim of "+decimal.Print(x.d), decimal.Trim(x.d), 0, x.want, 0)
	}
	check := func(d decimal.Dec) {
		got := decimal.Trim(d)
		if !isTrim(got) {
			t.Fatalf("Trim(%v): %v", d, got)
		}
		same(t, "Trim", got, 0, trim(parts(d)), 0)
		same(t, "Trim again", decimal.Trim(got), 0, got, 0)
	}
	each(3, 5, check)
	for _, d := range great() {
		check(d)
	}
}

// P6.2: -1, 0 or 1, as numbers, whatever scales, noughts and signs of 0 they have.
func TestCompare(t *testing.T) {
	for _, x := range []struct {
		a, b string
		want int
	}{
		{"0", "-0", 0}, {"-0.00", "0", 0}, {"0", "0.000", 0}, {"1", "1.0", 0}, {"-1.50", "-1.5", 0}, {"007", "7.00", 0}, {"0.5", "0.25", 1},
		{"9", "10", -1}, {"-9", "-10", 1}, {"-1", "1", -1}, {"1", "-1", 1}, {"-0.001", "0", -1}, {"0", "-0.001", 1}, {"0", "0.001", -1},
		{"-0", "0.001", -1}, {"0.001", "-0", 1}, {"0.9", "1", -1}, {"-0.9", "-1", 1}, {"1.01", "1.009", 1}, {"-1.01", "-1.009", -1},
		{"100", "99.999", 1}, {"0.1", "0.09999", 1}, {"123456789012345678901234567890", "123456789012345678901234567890.1", -1},
	} {
		a, _ := decimal.Parse(x.a)
		b, _ := decimal.Parse(x.b)
		if c := decimal.Compare(a, b); c != x.want {
			t.Errorf("Compare(%s, %s): %d", x.a, x.b, c)
		}
	}
	check := func(a, b decimal.Dec) {
		if c := decimal.Compare(a, b); c != parts(a).Cmp(parts(b)) {
			t.Fatalf("Compare(%v, %v): %d", a, b, c)
		}
	}
	short, some := all(1, 2), mixed()
	short = append(short, dec(false, "99", 1), dec(true, "10", 1), dec(false, "100", 2), dec(true, "099", 2), dec(false, "11", 0))
	for _, a := range short {
		for _, b := range short {
			check(a, b)
		}
	}
	for _, a := range some {
		for _, b := range some {
			check(a, b)
		}
	}
}

// P6.2: ahead of the point without noughts ahead; behind it just so many.
func TestParts(t *testing.T) {
	for _, x := range []struct {
		d             decimal.Dec
		ahead, behind string
	}{
		{decimal.Dec{}, "", ""}, {dec(true, "0", 0), "", ""}, {dec(false, "000", 0), "", ""}, {dec(false, "000", 2), "", "00"},
		{dec(false, "", 3), "", "000"}, {dec(false, "7", 0), "7", ""}, {dec(true, "7", 2), "", "07"}, {dec(false, "0075", 1), "7", "5"},
		{dec(false, "0075", 2), "", "75"}, {dec(false, "0075", 3), "", "075"}, {dec(true, "12300", 2), "123", "00"}, {dec(false, "100", 0), "100", ""},
		{dec(false, "0100", 1), "10", "0"}, {dec(false, "1200", 3), "1", "200"}, {dec(false, "5", 1000), "", strings.Repeat("0", 999) + "5"},
		{dec(false, strings.Repeat("9", 1001), 1000), "9", strings.Repeat("9", 1000)},
	} {
		a, b := decimal.Parts(x.d)
		if !slices.Equal(a, dec(false, x.ahead, 0).L) || !slices.Equal(b, dec(false, x.behind, 0).L) {
			t.Errorf("Parts(%v): %d, %d", x.d, a, b)
		}
	}
	check := func(d decimal.Dec) {
		a, b := decimal.Parts(d)
		if len(b) != d.Scale || len(a) > 0 && a[0] == 0 {
			t.Fatalf("Parts(%v): %d, %d", d, a, b)
		}
		whole := decimal.Dec{Neg: d.Neg, L: append(slices.Clone(a), b...), Scale: d.Scale}
		if parts(whole).Cmp(parts(d)) != 0 {
			t.Fatalf("Parts(%v): %d, %d", d, a, b)
		}
	}
	each(3, 5, check)
	for _, d := range great() {
		check(d)
	}
}

// P6.3: both together, and one less another one, trim.
func TestAddAndSub(t *testing.T) {
	for _, x := range []struct{ a, b, sum, rest string }{
		{"0.5", "-1.25", "-0.75", "1.75"}, {"0", "0", "0", "0"}, {"-0", "-0", "0", "0"}, {"-0.00", "0", "0", "0"}, {"1", "-1", "0", "2"},
		{"-1", "1", "0", "-2"}, {"1.5", "1.50", "3", "0"}, {"-1.5", "-1.50", "-3", "0"}, {"0.5", "0.5", "1", "0"}, {"99.99", "0.01", "100", "99.98"},
		{"0.01", "99.99", "100", "-99.98"}, {"1", "0.001", "1.001", "0.999"}, {"-1", "0.001", "-0.999", "-1.001"}, {"0", "5", "5", "-5"},
		{"0", "-5", "-5", "5"}, {"-5", "0.0", "-5", "-5"}, {"007", "-0003.50", "3.5", "10.5"}, {"100", "200", "300", "-100"},
		{"9223372036854775807", "0.5", "9223372036854775807.5", "9223372036854775806.5"}, {"10", "-9.99", "0.01", "19.99"},
	} {
		a, _ := decimal.Parse(x.a)
		b, _ := decimal.Parse(x.b)
		sum, err := decimal.Add(a, b)
		if decimal.Print(sum) != x.sum || err != 0 {
			t.Errorf("Add(%s, %s): %v, %d", x.a, x.b, sum, err)
		}
		rest, err := decimal.Sub(a, b)
		if decimal.Print(rest) != x.rest || err != 0 {
			t.Errorf("Sub(%s, %s): %v, %d", x.a, x.b, rest, err)
		}
	}
	check := func(a, b decimal.Dec) {
		x, y := parts(a), parts(b)
		sum, err := decimal.Add(a, b)
		same(t, "Add", sum, err, trim(new(big.Int).Add(x, y)), 0)
		rest, err := decimal.Sub(a, b)
		same(t, "Sub", rest, err, trim(new(big.Int).Sub(x, y)), 0)
	}
	short, few := all(1, 2), mixed()
	short = append(short, dec(false, "99", 1), dec(true, "10", 1), dec(false, "100", 2), dec(true, "099", 2), dec(false, "11", 0))
	for _, a := range short {
		for _, b := range short {
			check(a, b)
		}
	}
	for i, a := range few {
		for k, b := range few {
			if (i+k)%5 == 0 {
				check(a, b)
			}
		}
	}
}

// P6.3: n times the number, n from -1000 to 1000, trim.
func TestTimes(t *testing.T) {
	for _, x := range []struct {
		d    string
		n    int
		want string
	}{
		{"0.25", 4, "1"}, {"0.25", -4, "-1"}, {"-0.25", -4, "1"}, {"-0.25", 4, "-1"}, {"1.5", 0, "0"}, {"-1.5", 0, "0"}, {"-0", 5, "0"}, {"0", -5, "0"},
		{"-0.00", -1, "0"}, {"0.001", 1000, "1"}, {"0.001", -1000, "-1"}, {"12.34", 1, "12.34"}, {"12.340", -1, "-12.34"}, {"007", 3, "21"},
		{"5", 20, "100"}, {"9223372036854775807", -1000, "-9223372036854775807000"},
	} {
		d, _ := decimal.Parse(x.d)
		got, err := decimal.Times(d, x.n)
		if decimal.Print(got) != x.want || err != 0 {
			t.Errorf("Times(%s, %d): %v, %d", x.d, x.n, got, err)
		}
	}
	check := func(d decimal.Dec, n int) {
		got, err := decimal.Times(d, n)
		if n < -1000 || n > 1000 {
			same(t, "Times by "+strconv.Itoa(n), got, err, decimal.Dec{}, api.ErrRange)
			return
		}
		same(t, "Times by "+strconv.Itoa(n), got, err, trim(new(big.Int).Mul(parts(d), big.NewInt(int64(n)))), 0)
	}
	for n := -1010; n <= 1010; n++ {
		for _, d := range []decimal.Dec{{}, dec(true, "0", 1), dec(true, "7", 0), dec(false, "125", 3), dec(true, "0990", 2)} {
			check(d, n)
		}
	}
	for _, n := range []int{low, low + 1, high, 1 << 32, 1<<32 + 1, -1 << 32, -1<<32 + 1} {
		check(decimal.Dec{}, n)
		check(dec(true, "12", 1), n)
	}
	for _, d := range mixed() {
		for _, n := range []int{-1000, -999, -10, -1, 0, 1, 2, 8, 125, 1000} {
			check(d, n)
		}
	}
}

// P6.3: the same number of just that scale; none, if it needs more digits.
func TestAlign(t *testing.T) {
	for _, x := range []struct {
		d     decimal.Dec
		scale int
		want  decimal.Dec
		err   api.Errno
	}{
		{decimal.Dec{}, 0, decimal.Dec{}, 0}, {dec(true, "0", 0), 0, decimal.Dec{}, 0}, {dec(true, "000", 2), 5, dec(false, "", 5), 0},
		{dec(true, "000", 2), 0, decimal.Dec{}, 0}, {dec(false, "", 1000), 0, decimal.Dec{}, 0}, {decimal.Dec{}, 1000, dec(false, "", 1000), 0},
		{dec(false, "15", 1), 1, dec(false, "15", 1), 0}, {dec(false, "15", 1), 3, dec(false, "1500", 3), 0}, {dec(true, "0150", 2), 1, dec(true, "15", 1), 0},
		{dec(true, "0150", 2), 2, dec(true, "150", 2), 0}, {dec(true, "0150", 2), 0, decimal.Dec{}, api.ErrRange}, {dec(false, "100", 2), 0, dec(false, "1", 0), 0},
		{dec(false, "7", 2), 2, dec(false, "7", 2), 0}, {dec(false, "007", 2), 3, dec(false, "70", 3), 0}, {dec(false, "7", 2), 1, decimal.Dec{}, api.ErrRange},
		{dec(false, "100", 0), 0, dec(false, "100", 0), 0}, {dec(false, "100", 0), 2, dec(false, "10000", 2), 0},
		{dec(true, "1", 0), 1000, dec(true, "1"+strings.Repeat("0", 1000), 1000), 0}, {dec(true, "1", 1000), 1000, dec(true, "1", 1000), 0},
		{dec(true, "1", 1000), 999, decimal.Dec{}, api.ErrRange}, {dec(true, "10", 1000), 999, dec(true, "1", 999), 0},
		{dec(true, "1", 0), 1001, decimal.Dec{}, api.ErrRange}, {dec(true, "1", 0), -1, decimal.Dec{}, api.ErrRange},
		{decimal.Dec{}, 1001, decimal.Dec{}, api.ErrRange}, {decimal.Dec{}, -1, decimal.Dec{}, api.ErrRange}, {decimal.Dec{}, low, decimal.Dec{}, api.ErrRange},
		{decimal.Dec{}, high, decimal.Dec{}, api.ErrRange}, {decimal.Dec{}, 1 << 32, decimal.Dec{}, api.ErrRange}, {dec(false, "10", 1), -1, decimal.Dec{}, api.ErrRange},
	} {
		got, err := decimal.Align(x.d, x.scale)
		same(t, "Align of "+decimal.Print(x.d)+" to "+strconv.Itoa(x.scale), got, err, x.want, x.err)
	}
}

// P6.3: every short decimal, and great ones, to every scale near theirs.
func TestAlignEach(t *testing.T) {
	check := func(d decimal.Dec, scale int) {
		x := parts(d)
		need := trim(x)
		want, fails := decimal.Dec{}, api.ErrRange
		if scale >= need.Scale && scale <= 1000 {
			l := slices.Clone(need.L)
			if len(l) > 0 {
				l = append(l, make([]int, scale-need.Scale)...)
			}
			want, fails = decimal.Dec{Neg: x.Sign() < 0, L: l, Scale: scale}, 0
		}
		got, err := decimal.Align(d, scale)
		same(t, "Align", got, err, want, fails)
		if err == 0 && parts(got).Cmp(x) != 0 {
			t.Fatalf("Align(%v, %d): %v", d, scale, got)
		}
	}
	each(2, 4, func(d decimal.Dec) {
		for scale := -1; scale <= 6; scale++ {
			check(d, scale)
		}
	})
	for _, d := range great() {
		for _, scale := range []int{-1, 0, d.Scale - 3, d.Scale - 1, d.Scale, d.Scale + 1, 1000, 1001} {
			check(d, scale)
		}
	}
}

// P6.3, R2: what may not be is told first, though a number is out of its range.
func TestReckonWithWrong(t *testing.T) {
	for _, w := range wrong() {
		for _, d := range []decimal.Dec{{}, dec(true, "12", 1), w} {
			for _, x := range [][2]decimal.Dec{{w, d}, {d, w}} {
				got, err := decimal.Add(x[0], x[1])
				same(t, "Add", got, err, decimal.Dec{}, api.ErrArg)
				got, err = decimal.Sub(x[0], x[1])
				same(t, "Sub", got, err, decimal.Dec{}, api.ErrArg)
			}
		}
		for _, n := range []int{0, 1, -1, 2, 1000, -1000, 1001, -1001, low, high} {
			got, err := decimal.Times(w, n)
			same(t, "Times", got, err, decimal.Dec{}, api.ErrArg)
			got, err = decimal.Align(w, n)
			same(t, "Align", got, err, decimal.Dec{}, api.ErrArg)
		}
	}
}

// P6.4: what is added is taken away again; so many times is a sum of so many.
func TestAddAndTakeAway(t *testing.T) {
	check := func(a, b decimal.Dec) {
		sum, _ := decimal.Add(a, b)
		back, err := decimal.Sub(sum, b)
		same(t, "a back", back, err, decimal.Trim(a), 0)
		back, err = decimal.Sub(sum, a)
		same(t, "b back", back, err, decimal.Trim(b), 0)
		other, err := decimal.Add(b, a)
		same(t, "the other way round", other, err, sum, 0)
		rest, _ := decimal.Sub(a, b)
		back, err = decimal.Add(rest, b)
		same(t, "a again", back, err, decimal.Trim(a), 0)
	}
	short, few := all(1, 3), mixed()
	for _, a := range short {
		for _, b := range short {
			check(a, b)
		}
	}
	for i, a := range few {
		check(a, few[len(few)-1-i])
		sum := decimal.Dec{}
		for n := range 12 {
			times, err := decimal.Times(a, n)
			same(t, "Times", times, err, sum, 0)
			sum, _ = decimal.Add(sum, a)
		}
	}
}

// lists is every list that a call answers, made of these two.
func lists(a, b decimal.Dec) [][]int {
	trimmed := decimal.Trim(a)
	sum, _ := decimal.Add(a, b)
	none, _ := decimal.Add(a, decimal.Dec{})
	rest, _ := decimal.Sub(a, b)
	all, _ := decimal.Sub(a, decimal.Dec{})
	times, _ := decimal.Times(a, 1)
	still, _ := decimal.Align(a, a.Scale)
	more, _ := decimal.Align(a, a.Scale+2)
	ahead, behind := decimal.Parts(a)
	other, last := decimal.Parts(b)
	return [][]int{trimmed.L, decimal.Trim(b).L, sum.L, none.L, rest.L, all.L, times.L, still.L, more.L, ahead, behind, other, last}
}

// R4: what is handed in stays, its spare room too; what is answered is new,
// the two lists of one answer as well.
func TestListsAreNew(t *testing.T) {
	for _, x := range [][2]string{{"98.7", "1.23"}, {"-100", "0.01"}, {"9.99", "-9.99"}, {"0.00", "-0"}, {"50.1", "50.1"}, {"0.5", "7"}, {"12", "0.3"}} {
		a, _ := decimal.Parse(x[0])
		b, _ := decimal.Parse(x[1])
		roomA := append(slices.Clone(a.L), 7, 7, 7, 7)
		roomB := append(slices.Clone(b.L), 8, 8, 8, 8)
		a.L, b.L = roomA[:len(a.L)], roomB[:len(b.L)]
		wasA, wasB := slices.Clone(roomA), slices.Clone(roomB)
		stay := func() {
			if !slices.Equal(roomA, wasA) || !slices.Equal(roomB, wasB) {
				t.Fatalf("%d, %d: not %d, %d", roomA, roomB, wasA, wasB)
			}
		}
		made := lists(a, b)
		decimal.May(a)
		decimal.Print(a)
		decimal.Compare(a, b)
		stay()
		for i, l := range made {
			for k := range l {
				l[k] = -100 - i
			}
			stay()
		}
		for i, l := range made {
			_ = append(l, -500-i)
			stay()
		}
		for i, l := range made {
			for _, d := range l {
				if d != -100-i {
					t.Fatalf("%d: shares its memory with another one", l)
				}
			}
		}
		// R5: and asked once more, as much is told.
		for i, l := range lists(a, b) {
			if len(l) != len(made[i]) || len(l) > 0 && slices.Min(l) < 0 {
				t.Fatalf("%d", l)
			}
		}
	}
}

// R1, R2: none panics, whatever is handed in, where the chapter speaks of
// decimals that may be too; of others they tell nothing.
func TestNonePanics(t *testing.T) {
	some := append(wrong(), decimal.Dec{}, dec(true, "12", 1), dec(false, "7", 1000))
	for _, a := range some {
		for _, b := range some {
			c := decimal.Compare(a, b)
			if c != 0 && !(decimal.May(a) && decimal.May(b)) {
				t.Fatalf("Compare(%v, %v): %d", a, b, c)
			}
			lists(a, b)
		}
	}
	for _, w := range wrong() {
		ahead, behind := decimal.Parts(w)
		if len(ahead)+len(behind) > 0 {
			t.Fatalf("Parts(%v): %d, %d", w, ahead, behind)
		}
		same(t, "Trim", decimal.Trim(w), 0, decimal.Dec{}, 0)
	}
}

// R1: decimals of many digits end soon.
func TestLong(t *testing.T) {
	const n = 1 << 20
	a, err := decimal.Parse("-" + strings.Repeat("9", n) + "." + strings.Repeat("9", 1000))
	if err != 0 || !a.Neg || len(a.L) != n+1000 || a.Scale != 1000 {
		t.Fatal(len(a.L), a.Scale, err)
	}
	one := decimal.Dec{Neg: true, L: []int{1}, Scale: 1000}
	sum, err := decimal.Add(a, one)
	if err != 0 || !sum.Neg || sum.Scale != 0 || len(sum.L) != n+1 || sum.L[0] != 1 {
		t.Fatal(len(sum.L), sum.Scale, err)
	}
	back, err := decimal.Sub(sum, one)
	if err != 0 || !equal(back, a) || decimal.Compare(back, sum) != 1 {
		t.Fatal(len(back.L), err)
	}
	if s := decimal.Print(back); len(s) != n+1002 {
		t.Fatal(len(s))
	}
	ahead, behind := decimal.Parts(a)
	if len(ahead) != n || len(behind) != 1000 {
		t.Fatal(len(ahead), len(behind))
	}
	wide, err := decimal.Align(sum, 1000)
	if err != 0 || len(wide.L) != n+1001 {
		t.Fatal(len(wide.L), err)
	}
	same(t, "Trim", decimal.Trim(wide), 0, sum, 0)
}

func BenchmarkAdd(b *testing.B) {
	x, _ := decimal.Parse(strings.Repeat("7", 64) + "." + strings.Repeat("3", 64))
	y, _ := decimal.Parse("-" + strings.Repeat("5", 60) + "." + strings.Repeat("8", 20))
	for range b.N {
		decimal.Add(x, y)
	}
}
