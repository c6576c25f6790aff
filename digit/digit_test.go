package digit_test

import (
	"math/big"
	"slices"
	"strconv"
	"strings"
	"testing"

	"abacist/api"
	"abacist/digit"
)

const (
	low  = -1 << 63
	high = 1<<63 - 1
)

// none is numbers that are no digits, some of which a narrower number, or one
// that is taken for a byte of a text, would take for one.
var none = []int{-1, 10, 11, -9, -10, 48, 57, 1 << 8, 1<<8 + 5, 1<<16 + 1, 1<<32 + 9, -1<<32 + 3, 1 << 62, low, low + 1, high}

// wrong is lists that are of something else than digits, at each of their places.
func wrong() [][]int {
	var l [][]int
	for _, x := range none {
		l = append(l, []int{x}, []int{x, 1, 2}, []int{1, x, 2}, []int{1, 2, x}, []int{0, 0, x}, []int{x, x})
	}
	return l
}

// eachList tells every list of up to most digits, those with noughts ahead too.
func eachList(most int, tell func(l []int)) {
	tell(nil)
	ends := 1
	for n := 1; n <= most; n++ {
		ends *= 10
		for x := range ends {
			l := make([]int, n)
			for i := n - 1; i >= 0; i-- {
				l[i] = x % 10
				x /= 10
			}
			tell(l)
		}
	}
}

// lists is all of these.
func lists(most int) [][]int {
	var all [][]int
	eachList(most, func(l []int) { all = append(all, l) })
	return all
}

// number is what a short list reads.
func number(l []int) int {
	n := 0
	for _, d := range l {
		n = n*10 + d
	}
	return n
}

// digits is a number's, trim.
func digits(n int) []int {
	if n == 0 {
		return nil
	}
	return append(digits(n/10), n%10)
}

// great is what a list of any length reads.
func great(t *testing.T, l []int) *big.Int {
	t.Helper()
	var b strings.Builder
	b.WriteByte('0')
	for _, d := range l {
		b.WriteString(strconv.Itoa(d))
	}
	n, ok := new(big.Int).SetString(b.String(), 10)
	if !ok {
		t.Fatal(b.String())
	}
	return n
}

// greatDigits is a number's, trim.
func greatDigits(n *big.Int) []int {
	if n.Sign() == 0 {
		return nil
	}
	var l []int
	for _, b := range []byte(n.String()) {
		l = append(l, int(b-'0'))
	}
	return l
}

// row is n digits by a fixed rule that mixes them; another seed, another row.
func row(n, seed int) []int {
	l := make([]int, n)
	x := uint32(seed)*2654435761 + 1
	for i := range l {
		x = x*1664525 + 1013904223
		l[i] = int(x>>16) % 10
	}
	return l
}

// rows is long lists: mixed ones, such as hand on at each place, and such as
// have noughts ahead.
func rows() [][]int {
	all := [][]int{nil, {0}, {1}, {9}}
	for seed, n := range []int{1, 2, 17, 18, 19, 20, 63, 64, 65, 100, 999, 1000, 1001} {
		all = append(all, row(n, seed), slices.Repeat([]int{9}, n), append([]int{1}, make([]int, n)...))
		all = append(all, append(make([]int, 5), row(n, seed+100)...), make([]int, n))
	}
	return all
}

// same holds an answer against a list and an error: beside one, none.
func same(t *testing.T, call string, got []int, err api.Errno, want []int, fails api.Errno) {
	t.Helper()
	if err != fails || !slices.Equal(got, want) {
		t.Fatalf("%s: %d, %d, not %d, %d", call, got, err, want, fails)
	}
}

// P5.1: lists of digits, and lists of something else, wherever it stands.
func TestMay(t *testing.T) {
	for _, l := range [][]int{nil, {}, {0}, {9}, {0, 1, 2, 3, 4, 5, 6, 7, 8, 9}, {0, 0, 0}, {9, 9, 9}} {
		if !digit.May(l) {
			t.Errorf("May(%d)", l)
		}
	}
	for d := -300; d <= 300; d++ {
		if is := digit.May([]int{d}); is != (d >= 0 && d <= 9) {
			t.Errorf("May(%d): %t", d, is)
		}
	}
	for _, l := range wrong() {
		if digit.May(l) {
			t.Errorf("May(%d)", l)
		}
	}
	for _, l := range rows() {
		if !digit.May(l) || digit.May(append(slices.Clone(l), 10)) {
			t.Errorf("May of %d digits", len(l))
		}
	}
}

// P5.1: a text's digits, its noughts too; none of what has another byte.
func TestParse(t *testing.T) {
	for _, x := range []struct {
		s    string
		want []int
		err  api.Errno
	}{
		{"", nil, 0}, {"0", []int{0}, 0}, {"9", []int{9}, 0}, {"100", []int{1, 0, 0}, 0}, {"007", []int{0, 0, 7}, 0},
		{"0123456789", []int{0, 1, 2, 3, 4, 5, 6, 7, 8, 9}, 0},
		{"-1", nil, api.ErrForm}, {"+1", nil, api.ErrForm}, {"1.5", nil, api.ErrForm}, {"1,5", nil, api.ErrForm},
		{" 1", nil, api.ErrForm}, {"1 ", nil, api.ErrForm}, {"1_0", nil, api.ErrForm}, {"0x1", nil, api.ErrForm},
		{"1e3", nil, api.ErrForm}, {"1\n", nil, api.ErrForm}, {"1\x00", nil, api.ErrForm}, {"a", nil, api.ErrForm},
		{"\u0661", nil, api.ErrForm}, {"1\uff12", nil, api.ErrForm}, {"12\xff", nil, api.ErrForm}, {"\xb1", nil, api.ErrForm},
	} {
		l, err := digit.Parse(x.s)
		same(t, strconv.QuoteToASCII(x.s), l, err, x.want, x.err)
	}
}

// P5.1: every byte, alone and at each place among digits.
func TestParseEachByte(t *testing.T) {
	for b := range 256 {
		for _, x := range []struct{ ahead, behind string }{{"", ""}, {"12", ""}, {"", "12"}, {"1", "2"}} {
			s := x.ahead + string([]byte{byte(b)}) + x.behind
			var want []int
			fails := api.ErrForm
			if b >= '0' && b <= '9' {
				fails = api.OK
				for i := range len(s) {
					want = append(want, int(s[i])-48)
				}
			}
			l, err := digit.Parse(s)
			same(t, strconv.QuoteToASCII(s), l, err, want, fails)
		}
	}
}

// P5.1: digits as a text; the empty one of what is no list of digits.
func TestText(t *testing.T) {
	for _, x := range []struct {
		l    []int
		want string
	}{
		{nil, ""}, {[]int{}, ""}, {[]int{0}, "0"}, {[]int{9}, "9"}, {[]int{0, 0, 7}, "007"}, {[]int{1, 0, 0}, "100"},
		{[]int{0, 1, 2, 3, 4, 5, 6, 7, 8, 9}, "0123456789"},
	} {
		if s := digit.Text(x.l); s != x.want {
			t.Errorf("Text(%d): %q", x.l, s)
		}
	}
	for _, l := range wrong() {
		if s := digit.Text(l); s != "" {
			t.Errorf("Text(%d): %q", l, s)
		}
	}
}

// P5.1: what is a text is parsed as it was, and back.
func TestTextAndParse(t *testing.T) {
	check := func(l []int) {
		s := digit.Text(l)
		if len(s) != len(l) {
			t.Fatalf("Text(%d): %q", l, s)
		}
		back, err := digit.Parse(s)
		same(t, s, back, err, l, 0)
		if digit.Text(back) != s {
			t.Fatalf("%q: %q", s, digit.Text(back))
		}
	}
	eachList(4, check)
	for _, l := range rows() {
		check(l)
	}
}

// P5.2: how many noughts stand ahead, and the list without these alone.
func TestZerosAndTrim(t *testing.T) {
	for _, x := range []struct {
		l     []int
		zeros int
		trim  []int
	}{
		{nil, 0, nil}, {[]int{}, 0, nil}, {[]int{0}, 1, nil}, {[]int{0, 0, 0}, 3, nil}, {[]int{5}, 0, []int{5}},
		{[]int{0, 5}, 1, []int{5}}, {[]int{5, 0}, 0, []int{5, 0}}, {[]int{0, 0, 5, 0, 0}, 2, []int{5, 0, 0}},
		{[]int{1, 0, 2}, 0, []int{1, 0, 2}}, {[]int{0, 1, 0, 2}, 1, []int{1, 0, 2}},
	} {
		if n := digit.Zeros(x.l); n != x.zeros {
			t.Errorf("Zeros(%d): %d", x.l, n)
		}
		if l := digit.Trim(x.l); !slices.Equal(l, x.trim) {
			t.Errorf("Trim(%d): %d", x.l, l)
		}
	}
	eachList(4, func(l []int) {
		want := digits(number(l))
		if got := digit.Trim(l); !slices.Equal(got, want) || digit.Zeros(l) != len(l)-len(want) {
			t.Fatalf("%d: %d, %d", l, got, digit.Zeros(l))
		}
	})
}

// P5.2: -1, 0 or 1, as numbers; noughts ahead are none.
func TestCompare(t *testing.T) {
	for _, x := range []struct {
		a, b []int
		want int
	}{
		{nil, nil, 0}, {nil, []int{}, 0}, {nil, []int{0, 0}, 0}, {[]int{0}, nil, 0}, {[]int{1}, nil, 1}, {nil, []int{0, 1}, -1},
		{[]int{9}, []int{1, 0}, -1}, {[]int{1, 0}, []int{9}, 1}, {[]int{0, 0, 9}, []int{1, 0}, -1}, {[]int{0, 7}, []int{7}, 0},
		{[]int{1, 2, 3}, []int{1, 2, 4}, -1}, {[]int{2, 0, 0}, []int{1, 9, 9}, 1}, {[]int{1, 0}, []int{1, 0, 0}, -1},
	} {
		if c := digit.Compare(x.a, x.b); c != x.want {
			t.Errorf("Compare(%d, %d): %d", x.a, x.b, c)
		}
	}
	all := lists(3)
	for _, a := range all {
		for _, b := range all {
			want := 0
			if number(a) < number(b) {
				want = -1
			} else if number(a) > number(b) {
				want = 1
			}
			if c := digit.Compare(a, b); c != want {
				t.Fatalf("Compare(%d, %d): %d", a, b, c)
			}
		}
	}
	for _, a := range rows() {
		for _, b := range rows() {
			if c := digit.Compare(a, b); c != great(t, a).Cmp(great(t, b)) {
				t.Fatalf("Compare(%d, %d): %d", a, b, c)
			}
		}
	}
}

// P5.2: the last digit tells; 0 is not odd.
func TestOdd(t *testing.T) {
	for _, x := range []struct {
		l    []int
		want bool
	}{
		{nil, false}, {[]int{}, false}, {[]int{0}, false}, {[]int{1}, true}, {[]int{1, 0}, false}, {[]int{2, 1}, true},
		{[]int{0, 0, 9}, true}, {[]int{9, 9, 8}, false}, {append(slices.Repeat([]int{9}, 1000), 0), false},
		{append(slices.Repeat([]int{8}, 1000), 7), true},
	} {
		if is := digit.Odd(x.l); is != x.want {
			t.Errorf("Odd(%d): %t", x.l, is)
		}
	}
	eachList(3, func(l []int) {
		if digit.Odd(l) != (number(l)%2 == 1) {
			t.Fatalf("Odd(%d): %t", l, digit.Odd(l))
		}
	})
}

// P5.3: all numbers together, of none to many.
func TestSum(t *testing.T) {
	for _, x := range []struct{ l, want string }{
		{"", ""}, {"0", ""}, {"000 00", ""}, {"7", "7"}, {"007", "7"}, {"99 1", "100"}, {"1 99", "100"}, {"5 5", "10"},
		{"1 2 3", "6"}, {"9 9 9 9 9 9 9 9 9 9 9 9", "108"}, {"001 0002", "3"}, {"123 4567 89", "4779"},
		{"9223372036854775807 9223372036854775807 9223372036854775807", "27670116110564327421"},
		{strings.Repeat("9", 70) + " 1", "1" + strings.Repeat("0", 70)},
	} {
		var l [][]int
		for _, s := range strings.Fields(x.l) {
			one, _ := digit.Parse(s)
			l = append(l, one)
		}
		got, err := digit.Sum(l...)
		if digit.Text(got) != x.want || err != 0 {
			t.Errorf("Sum of %s: %s, %d", x.l, digit.Text(got), err)
		}
	}
	got, err := digit.Sum()
	same(t, "Sum()", got, err, nil, 0)
	got, err = digit.Sum(nil, []int{}, nil)
	same(t, "Sum of three empty ones", got, err, nil, 0)
	got, err = digit.Sum([]int{9, 9}, []int{1})
	same(t, "Sum of 9 9, 1", got, err, []int{1, 0, 0}, 0)
}

// P5.3: of two lists, each with each; of three; of many that hand on much.
func TestSumOfEach(t *testing.T) {
	all := lists(3)
	for _, a := range all {
		for _, b := range all {
			got, err := digit.Sum(a, b)
			same(t, "Sum", got, err, digits(number(a)+number(b)), 0)
		}
	}
	few := lists(1)
	for _, a := range few {
		for _, b := range few {
			for _, c := range lists(2) {
				got, err := digit.Sum(a, b, c)
				same(t, "Sum", got, err, digits(number(a)+number(b)+number(c)), 0)
			}
		}
	}
	for _, n := range []int{0, 1, 2, 10, 11, 12, 111, 112, 1000, 12345} {
		for _, one := range [][]int{{9}, {1, 0}, {9, 9, 9}, {0, 4}} {
			got, err := digit.Sum(slices.Repeat([][]int{one}, n)...)
			same(t, "Sum of many", got, err, digits(number(one)*n), 0)
		}
	}
}

// P5.3: of lists that no number of the machine holds.
func TestSumOfLong(t *testing.T) {
	all := rows()
	whole := new(big.Int)
	for _, a := range all {
		whole.Add(whole, great(t, a))
		for _, b := range all {
			got, err := digit.Sum(a, b)
			same(t, "Sum", got, err, greatDigits(new(big.Int).Add(great(t, a), great(t, b))), 0)
		}
	}
	got, err := digit.Sum(all...)
	same(t, "Sum of all", got, err, greatDigits(whole), 0)
}

// P5.3: none, if one is no list of digits, whichever.
func TestSumOfWrong(t *testing.T) {
	for _, x := range wrong() {
		for _, l := range [][][]int{{x}, {x, {1}}, {{1}, x}, {nil, x}, {{1}, x, {2}}, {x, x}, {{1}, {2}, {3}, x}} {
			got, err := digit.Sum(l...)
			same(t, "Sum", got, err, nil, api.ErrArg)
		}
	}
	// Together they would be digits again.
	got, err := digit.Sum([]int{-1}, []int{5})
	same(t, "Sum of -1, 5", got, err, nil, api.ErrArg)
}

// P5.3: a less b, whatever noughts both have ahead; none, if b is greater.
func TestSub(t *testing.T) {
	for _, x := range []struct {
		a, b, want string
		err        api.Errno
	}{
		{"100", "99", "1", 0}, {"100", "1", "99", 0}, {"7", "7", "", 0}, {"7", "", "7", 0}, {"", "", "", 0}, {"", "000", "", 0},
		{"007", "2", "5", 0}, {"7", "0002", "5", 0}, {"0", "00", "", 0}, {"1000000", "1", "999999", 0}, {"1000", "999", "1", 0},
		{"", "1", "", api.ErrRange}, {"7", "8", "", api.ErrRange}, {"99", "100", "", api.ErrRange},
		{"000099", "100", "", api.ErrRange}, {"0", "0001", "", api.ErrRange}, {"129", "130", "", api.ErrRange},
	} {
		a, _ := digit.Parse(x.a)
		b, _ := digit.Parse(x.b)
		got, err := digit.Sub(a, b)
		if digit.Text(got) != x.want || err != x.err {
			t.Errorf("Sub(%s, %s): %s, %d", x.a, x.b, digit.Text(got), err)
		}
	}
	all := lists(3)
	for _, a := range all {
		for _, b := range all {
			want, fails := []int(nil), api.ErrRange
			if number(a) >= number(b) {
				want, fails = digits(number(a)-number(b)), 0
			}
			got, err := digit.Sub(a, b)
			same(t, "Sub", got, err, want, fails)
		}
	}
}

// P5.3: of lists that no number of the machine holds.
func TestSubOfLong(t *testing.T) {
	all := rows()
	for _, a := range all {
		for _, b := range all {
			less := new(big.Int).Sub(great(t, a), great(t, b))
			want, fails := []int(nil), api.ErrRange
			if less.Sign() >= 0 {
				want, fails = greatDigits(less), 0
			}
			got, err := digit.Sub(a, b)
			same(t, "Sub", got, err, want, fails)
		}
	}
}

// P5.3, R2: what is no list of digits is told first, though it looks greater.
func TestSubOfWrong(t *testing.T) {
	for _, x := range wrong() {
		for _, l := range [][2][]int{{x, nil}, {nil, x}, {x, {1}}, {{1}, x}, {x, {9, 9, 9, 9}}, {{9, 9, 9, 9}, x}, {x, x}} {
			got, err := digit.Sub(l[0], l[1])
			same(t, "Sub", got, err, nil, api.ErrArg)
		}
	}
}

// P5.3: n times the number, n from 0 to 1000.
func TestTimes(t *testing.T) {
	for _, x := range []struct {
		l    string
		n    int
		want string
		err  api.Errno
	}{
		{"", 0, "", 0}, {"", 1000, "", 0}, {"0", 7, "", 0}, {"000", 1000, "", 0}, {"7", 0, "", 0}, {"7", 1, "7", 0},
		{"007", 1, "7", 0}, {"99", 99, "9801", 0}, {"999", 1000, "999000", 0}, {"1", 1000, "1000", 0}, {"25", 4, "100", 0},
		{"9223372036854775807", 1000, "9223372036854775807000", 0},
		{"7", -1, "", api.ErrRange}, {"7", 1001, "", api.ErrRange}, {"", -1, "", api.ErrRange}, {"", 1001, "", api.ErrRange},
		{"7", low, "", api.ErrRange}, {"7", high, "", api.ErrRange}, {"7", 1<<32 + 1, "", api.ErrRange},
		{"7", -1<<32 + 1, "", api.ErrRange},
	} {
		l, _ := digit.Parse(x.l)
		got, err := digit.Times(l, x.n)
		if digit.Text(got) != x.want || err != x.err {
			t.Errorf("Times(%s, %d): %s, %d", x.l, x.n, digit.Text(got), err)
		}
	}
	for n := -3; n <= 1003; n++ {
		for _, l := range lists(2) {
			want, fails := []int(nil), api.ErrRange
			if n >= 0 && n <= 1000 {
				want, fails = digits(number(l)*n), 0
			}
			got, err := digit.Times(l, n)
			same(t, "Times", got, err, want, fails)
		}
	}
	for _, l := range rows() {
		for _, n := range []int{0, 1, 2, 9, 10, 99, 123, 999, 1000} {
			got, err := digit.Times(l, n)
			same(t, "Times", got, err, greatDigits(new(big.Int).Mul(great(t, l), big.NewInt(int64(n)))), 0)
		}
	}
}

// P5.3: noughts behind, or digits taken from behind; what stands ahead stays,
// noughts too.
func TestShift(t *testing.T) {
	thousand := make([]int, 1000)
	long := row(1200, 3)
	for _, x := range []struct {
		l    []int
		n    int
		want []int
		err  api.Errno
	}{
		{[]int{1, 2}, 0, []int{1, 2}, 0}, {[]int{1, 2}, 3, []int{1, 2, 0, 0, 0}, 0}, {[]int{1, 2, 3}, -1, []int{1, 2}, 0},
		{[]int{1, 2, 3}, -2, []int{1}, 0}, {[]int{1, 2, 3}, -3, nil, 0}, {[]int{1, 2, 3}, -4, nil, 0}, {[]int{1, 2, 3}, -1000, nil, 0},
		{[]int{0, 1}, 1, []int{0, 1, 0}, 0}, {[]int{0, 0, 1}, -1, []int{0, 0}, 0}, {[]int{0, 0}, 0, []int{0, 0}, 0},
		{nil, 0, nil, 0}, {nil, 2, []int{0, 0}, 0}, {nil, -2, nil, 0}, {nil, 1000, thousand, 0},
		{[]int{7}, 1000, append([]int{7}, thousand...), 0}, {long, -1000, long[:200], 0}, {long, -999, long[:201], 0},
		{long, 1000, append(slices.Clone(long), thousand...), 0},
		{[]int{7}, 1001, nil, api.ErrRange}, {[]int{7}, -1001, nil, api.ErrRange}, {nil, 1001, nil, api.ErrRange},
		{nil, -1001, nil, api.ErrRange}, {long, -1001, nil, api.ErrRange}, {[]int{7}, low, nil, api.ErrRange},
		{[]int{7}, high, nil, api.ErrRange}, {[]int{7}, 1 << 32, nil, api.ErrRange}, {[]int{7}, -1 << 32, nil, api.ErrRange},
	} {
		got, err := digit.Shift(x.l, x.n)
		same(t, "Shift by "+strconv.Itoa(x.n), got, err, x.want, x.err)
	}
	for n := -1010; n <= 1010; n++ {
		l := row(30, 7)
		fails := api.OK
		want := append(slices.Clone(l), make([]int, max(n, 0))...)
		want = want[:max(min(30+n, len(want)), 0)]
		if n < -1000 || n > 1000 {
			want, fails = nil, api.ErrRange
		}
		got, err := digit.Shift(l, n)
		same(t, "Shift by "+strconv.Itoa(n), got, err, want, fails)
	}
}

// P5.3, R2: what is no list of digits is told first, though n is out of its
// range, or what is wrong would be taken away.
func TestTimesAndShiftOfWrong(t *testing.T) {
	for _, l := range wrong() {
		for _, n := range []int{0, 1, 2, -1, -2, -3, 1000, -1000, 1001, -1001, low, high} {
			got, err := digit.Times(l, n)
			same(t, "Times", got, err, nil, api.ErrArg)
			got, err = digit.Shift(l, n)
			same(t, "Shift", got, err, nil, api.ErrArg)
		}
	}
}

// P5.4: what is taken away from a sum leaves the rest.
func TestSumAndSub(t *testing.T) {
	check := func(a, b []int) {
		sum, _ := digit.Sum(a, b)
		rest, err := digit.Sub(sum, b)
		same(t, "Sub", rest, err, digit.Trim(a), 0)
		rest, err = digit.Sub(sum, a)
		same(t, "Sub", rest, err, digit.Trim(b), 0)
	}
	short, long := lists(2), rows()
	for _, a := range short {
		for _, b := range short {
			check(a, b)
		}
	}
	for _, a := range long {
		for _, b := range long {
			check(a, b)
		}
	}
	rest, err := digit.Sum(long...)
	for i, x := range long {
		if err != 0 {
			t.Fatal(err)
		}
		left, _ := digit.Sum(long[i:]...)
		same(t, "what is left", rest, 0, left, 0)
		rest, err = digit.Sub(rest, x)
	}
	same(t, "nothing", rest, err, nil, 0)
}

// P5.3: n times is a sum of n; a shift by one is ten times.
func TestTimesIsSum(t *testing.T) {
	for _, l := range rows() {
		for _, n := range []int{0, 1, 2, 7, 30} {
			sum, _ := digit.Sum(slices.Repeat([][]int{l}, n)...)
			got, err := digit.Times(l, n)
			same(t, "Times", got, err, sum, 0)
		}
		ten, _ := digit.Times(l, 10)
		got, err := digit.Shift(digit.Trim(l), 1)
		same(t, "Shift", digit.Trim(got), err, ten, 0)
		back, err := digit.Shift(got, -1)
		same(t, "Shift back", back, err, digit.Trim(l), 0)
	}
}

// calls is every call that answers a list, made of these two.
func calls(a, b []int) [][]int {
	sum, _ := digit.Sum(a, b)
	one, _ := digit.Sum(a)
	sub, _ := digit.Sub(a, b)
	all, _ := digit.Sub(a, nil)
	times, _ := digit.Times(a, 1)
	still, _ := digit.Shift(a, 0)
	more, _ := digit.Shift(a, 2)
	fewer, _ := digit.Shift(a, -1)
	return [][]int{sum, one, sub, all, times, still, more, fewer, digit.Trim(a), digit.Trim(b)}
}

// R4: what is handed in stays, its spare room too; what is answered is new.
func TestListsAreNew(t *testing.T) {
	for _, x := range [][2]string{{"987", "123"}, {"100", "001"}, {"999", "999"}, {"000", "000"}, {"501", ""}} {
		a, _ := digit.Parse(x[0])
		b, _ := digit.Parse(x[1])
		roomA := append(slices.Clone(a), 7, 7, 7, 7)
		roomB := append(slices.Clone(b), 8, 8, 8, 8)
		a, b = roomA[:len(a)], roomB[:len(b)]
		wasA, wasB := slices.Clone(roomA), slices.Clone(roomB)
		stay := func() {
			if !slices.Equal(roomA, wasA) || !slices.Equal(roomB, wasB) {
				t.Fatalf("%d, %d: not %d, %d", roomA, roomB, wasA, wasB)
			}
		}
		made := calls(a, b)
		digit.May(a)
		digit.Zeros(a)
		digit.Compare(a, b)
		digit.Odd(a)
		digit.Text(a)
		stay()
		for i, l := range made {
			for k := range l {
				l[k] = -100 - i
			}
			_ = append(l, -500-i)
			stay()
		}
		for i, l := range made {
			for _, d := range l {
				if d != -100-i {
					t.Fatalf("%d: shares its memory with another one", l)
				}
			}
		}
		// R5: and asked once more, the same is told.
		for i, l := range calls(a, b) {
			if !digit.May(l) || len(l) != len(made[i]) {
				t.Fatalf("%d", l)
			}
		}
	}
}

// R4: a list of lists that is handed in stays too.
func TestSumLeavesLists(t *testing.T) {
	l := [][]int{{9, 9}, {0, 1}, nil, {5}}
	was := [][]int{{9, 9}, {0, 1}, nil, {5}}
	for range 3 {
		got, err := digit.Sum(l[:3]...)
		same(t, "Sum", got, err, []int{1, 0, 0}, 0)
		for i := range l {
			if !slices.Equal(l[i], was[i]) {
				t.Fatal(l)
			}
		}
	}
}

// R1: none panics, whatever is handed in, where the chapter speaks of lists of
// digits alone too.
func TestNonePanics(t *testing.T) {
	all := append(wrong(), nil, []int{}, []int{0}, []int{1, 2, 3})
	for _, a := range all {
		digit.Zeros(a)
		digit.Trim(a)
		digit.Odd(a)
		for _, b := range all {
			digit.Compare(a, b)
			calls(a, b)
		}
	}
}

// R1: long lists, and many, end soon.
func TestLong(t *testing.T) {
	const n = 1 << 20
	a := slices.Repeat([]int{9}, n)
	sum, err := digit.Sum(a, []int{1})
	if err != 0 || len(sum) != n+1 || sum[0] != 1 || digit.Zeros(sum[1:]) != n {
		t.Fatal(len(sum), err)
	}
	back, err := digit.Sub(sum, []int{1})
	if err != 0 || !slices.Equal(back, a) || digit.Compare(back, sum) != -1 {
		t.Fatal(len(back), err)
	}
	times, err := digit.Times(a, 1000)
	if err != 0 || len(times) != n+3 {
		t.Fatal(len(times), err)
	}
	if l, err := digit.Parse(digit.Text(a)); err != 0 || !slices.Equal(l, a) {
		t.Fatal(len(l), err)
	}
	many := append(slices.Repeat([][]int{{1}}, n), make([]int, n), nil)
	sum, err = digit.Sum(many...)
	same(t, "Sum of one long and many short", sum, err, digits(n), 0)
}

func BenchmarkSum(b *testing.B) {
	x, y := row(64, 1), row(64, 2)
	for range b.N {
		digit.Sum(x, y)
	}
}
