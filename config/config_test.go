package config_test

import (
	"errors"
	"math/big"
	"reflect"
	"regexp"
	"slices"
	"strconv"
	"strings"
	"testing"

	"abacist/api"
	"abacist/config"
	"abacist/decimal"
	"abacist/fault"
	"abacist/round"
)

const (
	low  = -1 << 63
	high = 1<<63 - 1
)

// good is a configuration that may be; change answers it with something else.
func good() config.Config {
	return config.Config{Min: "-99.5", Max: "999.5", Step: "0.5",
		Limits: config.Limits{IntCap: 4, FracCap: 3, Scale: 2, MinInt: 1, MinFrac: 1, Mode: round.HalfEven, History: 20}}
}

func change(with func(c *config.Config)) config.Config {
	c := good()
	with(&c)
	return c
}

// bound is a configuration of such bounds and step, and of such a scale and mode.
func bound(least, most, step string, scale, mode int) config.Config {
	return change(func(c *config.Config) {
		c.Min, c.Max, c.Step = least, most, step
		c.Limits = config.Limits{IntCap: 64, FracCap: 64, Scale: scale, Mode: mode, History: 1}
	})
}

// made is the rules of a configuration that may be.
func made(t testing.TB, c config.Config) config.Rules {
	t.Helper()
	r, err := config.New(c)
	if err != nil {
		t.Fatalf("%+v: %s", c, fault.Text(err))
	}
	return r
}

// parsed is a decimal from its text.
func parsed(t testing.TB, text string) decimal.Dec {
	t.Helper()
	d, err := decimal.Parse(text)
	if err != api.OK {
		t.Fatalf("%s: %d", text, err)
	}
	return d
}

// bad is what is no decimal: its scale, one of its digits, or both.
func bad() []decimal.Dec {
	return []decimal.Dec{
		{Scale: -1}, {Scale: 1001}, {Scale: low}, {Scale: high}, {Neg: true, L: []int{1, 2}, Scale: -1}, {L: []int{7}, Scale: 1001},
		{L: []int{10}}, {L: []int{-1}}, {L: []int{0, 0, 10}}, {L: []int{1, -1, 2}, Scale: 2}, {Neg: true, L: []int{low}}, {L: []int{1, high}, Scale: 64},
		{L: []int{10}, Scale: -1}, {L: []int{-1}, Scale: 1001},
	}
}

// The model: the chapter's words, over fractions.

func ten(n int) *big.Rat {
	return new(big.Rat).SetInt(new(big.Int).Exp(big.NewInt(10), big.NewInt(int64(n)), nil))
}

// rat is a decimal's number.
func rat(d decimal.Dec) *big.Rat {
	n := new(big.Int)
	for _, x := range d.L {
		n.Add(n.Mul(n, big.NewInt(10)), big.NewInt(int64(x)))
	}
	if d.Neg {
		n.Neg(n)
	}
	x := new(big.Rat).SetInt(n)
	return x.Quo(x, ten(d.Scale))
}

// ahead and behind are how many digits a number needs on each side of the point.
func ahead(x *big.Rat) int {
	whole := new(big.Int).Quo(x.Num(), x.Denom())
	return len(strings.TrimLeft(whole.Abs(whole).String(), "0"))
}

func behind(x *big.Rat) int {
	n, _ := x.FloatPrec()
	return n
}

// fits tells whether a number fits.
func fits(x *big.Rat, l config.Limits) bool { return ahead(x) <= l.IntCap && behind(x) <= l.Scale }

// worth is a number's value: rounded from the one of both next ones that is nearer to 0, then within the bounds.
func worth(x *big.Rat, scale, mode int, least, most *big.Rat) *big.Rat {
	y := new(big.Rat).Mul(x, ten(scale))
	near := new(big.Int).Quo(y.Num(), y.Denom())
	rest := new(big.Rat).Sub(y, new(big.Rat).SetInt(near))
	middle := rest.Abs(rest).Cmp(big.NewRat(1, 2))
	some := rest.Sign() > 0
	far := []bool{false, some, some && x.Sign() < 0, some && x.Sign() > 0, middle > 0, middle >= 0, middle > 0 || middle == 0 && near.Bit(0) == 1}[mode]
	if far {
		near.Add(near, big.NewInt(int64(x.Sign())))
	}
	y.SetInt(near)
	y.Quo(y, ten(scale))
	if y.Cmp(least) < 0 {
		return least
	}
	if y.Cmp(most) > 0 {
		return most
	}
	return y
}

// trim is a number's decimal, trim.
func trim(x *big.Rat) decimal.Dec {
	d := decimal.Dec{Neg: x.Sign() < 0, Scale: behind(x)}
	y := new(big.Rat).Mul(x, ten(d.Scale))
	for _, b := range []byte(strings.TrimLeft(y.Num().Abs(y.Num()).String(), "0")) {
		d.L = append(d.L, int(b-'0'))
	}
	return d
}

var form = regexp.MustCompile(`\A-?[0-9]+(\.[0-9]+)?\z`)

// read is a text's number, and what is wrong with the text.
func read(s string, l config.Limits) (*big.Rat, api.Errno) {
	if !form.MatchString(s) {
		return new(big.Rat), api.ErrForm
	}
	if _, rest, _ := strings.Cut(s, "."); len(rest) > 1000 {
		return new(big.Rat), api.ErrRange
	}
	x, _ := new(big.Rat).SetString(s)
	if !fits(x, l) {
		return x, api.ErrFull
	}
	return x, api.OK
}

// judged is where a configuration is wrong, and the error: the chapter's rows, one behind the other.
func judged(c config.Config) (string, api.Errno) {
	type number struct {
		where       string
		n, from, to int
	}
	for _, x := range []number{{"intcap", c.IntCap, 1, 64}, {"fraccap", c.FracCap, 0, 64}, {"scale", c.Scale, 0, c.FracCap},
		{"minint", c.MinInt, 0, c.IntCap}, {"minfrac", c.MinFrac, 0, c.Scale}, {"mode", c.Mode, 0, 6}, {"history", c.History, 1, 1024}} {
		if x.n >= x.from && x.n <= x.to {
			continue
		}
		if x.where == "mode" {
			return x.where, api.ErrNone
		}
		return x.where, api.ErrRange
	}
	var all [3]*big.Rat
	for i, x := range [][2]string{{"min", c.Min}, {"max", c.Max}, {"step", c.Step}} {
		n, err := read(x[1], c.Limits)
		if err != api.OK {
			return x[0], err
		}
		all[i] = n
	}
	if all[2].Sign() <= 0 {
		return "step", api.ErrRange
	}
	if all[0].Cmp(all[1]) > 0 {
		return "max", api.ErrRange
	}
	return "", api.OK
}

// equal tells whether decimals are the same, in all that they have.
func equal(a, b decimal.Dec) bool {
	return a.Neg == b.Neg && a.Scale == b.Scale && slices.Equal(a.L, b.L)
}

// same holds an answer against a decimal and an error.
func same(t *testing.T, call string, got decimal.Dec, err api.Errno, want decimal.Dec, fails api.Errno) {
	t.Helper()
	if err != fails || !equal(got, want) {
		t.Fatalf("%s: %v, %d, not %v, %d", call, got, err, want, fails)
	}
}

// refused holds New against an error that it must tell.
func refused(t *testing.T, c config.Config, where string, code api.Errno) {
	t.Helper()
	r, err := config.New(c)
	var f *fault.Fault
	if !reflect.ValueOf(r).IsZero() || !errors.As(err, &f) || f.Where != where || f.Err == nil || f.Err != error(code) {
		t.Fatalf("%+v: %+v, %q, not %s: %d", c, r, fault.Text(err), where, code)
	}
	if want := where + ": " + strconv.Itoa(int(code)); fault.Text(err) != want || fault.Depth(err) != 1 || fault.Code(err) != code {
		t.Fatalf("%+v: %q, not %q", c, fault.Text(err), want)
	}
}

// taken holds New against the rules that it must tell.
func taken(t *testing.T, c config.Config) {
	t.Helper()
	r, err := config.New(c)
	if err != nil {
		t.Fatalf("%+v: %q", c, fault.Text(err))
	}
	for i, x := range [][2]decimal.Dec{{r.Min, trim(rat(parsed(t, c.Min)))}, {r.Max, trim(rat(parsed(t, c.Max)))}, {r.Step, trim(rat(parsed(t, c.Step)))}} {
		if !equal(x[0], x[1]) {
			t.Fatalf("%+v: %d: %v, not %v", c, i, x[0], x[1])
		}
	}
	if r.Limits != c.Limits || r.Signed != (rat(r.Min).Sign() < 0) {
		t.Fatalf("%+v: %+v", c, r)
	}
}

// held holds New against the model.
func held(t *testing.T, c config.Config) {
	t.Helper()
	if where, code := judged(c); code != api.OK {
		refused(t, c, where, code)
		return
	}
	taken(t, c)
}

// P13.1, P13.2: the chapter's examples.
func TestExamples(t *testing.T) {
	r := made(t, config.Config{Min: "0", Max: "99.5", Step: "0.5", Limits: config.Limits{IntCap: 2, FracCap: 1, Scale: 1, Mode: round.HalfEven, History: 1}})
	for text, want := range map[string]string{"7.25": "7.2", "200": "99.5"} {
		got, err := r.Value(parsed(t, text))
		same(t, "Value of "+text, got, err, parsed(t, want), api.OK)
	}
	got, err := r.Move(parsed(t, "7"), -3)
	same(t, "Move of 7, -3", got, err, parsed(t, "5.5"), api.OK)
}

// P13.1: what rules are made of, field by field.
func TestNew(t *testing.T) {
	for _, x := range []struct {
		least, most, step string
		min, max, way     decimal.Dec
		signed            bool
	}{
		{"-99.5", "999.5", "0.5", decimal.Dec{Neg: true, L: []int{9, 9, 5}, Scale: 1}, decimal.Dec{L: []int{9, 9, 9, 5}, Scale: 1}, decimal.Dec{L: []int{5}, Scale: 1}, true},
		{"-0", "0.000", "010.000", decimal.Dec{}, decimal.Dec{}, decimal.Dec{L: []int{1, 0}}, false},
		{"-0.00", "-0", "1", decimal.Dec{}, decimal.Dec{}, decimal.Dec{L: []int{1}}, false},
		{"0.01", "0.0100", "0.01", decimal.Dec{L: []int{1}, Scale: 2}, decimal.Dec{L: []int{1}, Scale: 2}, decimal.Dec{L: []int{1}, Scale: 2}, false},
		{"-0.01", "-0.010", "9999.99", decimal.Dec{Neg: true, L: []int{1}, Scale: 2}, decimal.Dec{Neg: true, L: []int{1}, Scale: 2}, decimal.Dec{L: []int{9, 9, 9, 9, 9, 9}, Scale: 2}, true},
		{"-00020", "-0010.50", "100", decimal.Dec{Neg: true, L: []int{2, 0}}, decimal.Dec{Neg: true, L: []int{1, 0, 5}, Scale: 1}, decimal.Dec{L: []int{1, 0, 0}}, true},
		{"9999.99", "9999.99", "0000000.1" + strings.Repeat("0", 999), decimal.Dec{L: []int{9, 9, 9, 9, 9, 9}, Scale: 2}, decimal.Dec{L: []int{9, 9, 9, 9, 9, 9}, Scale: 2}, decimal.Dec{L: []int{1}, Scale: 1}, false},
	} {
		c := change(func(c *config.Config) { c.Min, c.Max, c.Step = x.least, x.most, x.step })
		r := made(t, c)
		if !equal(r.Min, x.min) || !equal(r.Max, x.max) || !equal(r.Step, x.way) || r.Signed != x.signed {
			t.Errorf("%+v: %+v", c, r)
		}
		if r.Limits != c.Limits || r.IntCap != 4 || r.FracCap != 3 || r.Scale != 2 || r.MinInt != 1 || r.MinFrac != 1 || r.Mode != 6 || r.History != 20 {
			t.Errorf("%+v: %+v", c, r)
		}
	}
}

// P13.1: limits at both ends of their ranges, and one beyond.
func TestLimits(t *testing.T) {
	type field = func(l *config.Limits) *int
	for _, x := range []struct {
		where       string
		code        api.Errno
		least, most int
		of          field
	}{
		{"intcap", api.ErrRange, 1, 64, func(l *config.Limits) *int { return &l.IntCap }},
		{"fraccap", api.ErrRange, 0, 64, func(l *config.Limits) *int { return &l.FracCap }},
		{"scale", api.ErrRange, 0, 40, func(l *config.Limits) *int { return &l.Scale }},
		{"minint", api.ErrRange, 0, 50, func(l *config.Limits) *int { return &l.MinInt }},
		{"minfrac", api.ErrRange, 0, 30, func(l *config.Limits) *int { return &l.MinFrac }},
		{"mode", api.ErrNone, 0, 6, func(l *config.Limits) *int { return &l.Mode }},
		{"history", api.ErrRange, 1, 1024, func(l *config.Limits) *int { return &l.History }},
	} {
		with := func(n int) config.Config {
			c := config.Config{Min: "0", Max: "9", Step: "1", Limits: config.Limits{IntCap: 50, FracCap: 40, Scale: 30, History: 9}}
			// What is bound to the field itself stands at its least.
			if x.where == "intcap" || x.where == "fraccap" || x.where == "scale" {
				c.Scale, c.MinInt, c.MinFrac = 0, 0, 0
			}
			*x.of(&c.Limits) = n
			return c
		}
		for n := x.least; n <= x.most; n++ {
			taken(t, with(n))
		}
		for _, n := range []int{x.least - 1, x.least - 2, x.most + 1, x.most + 2, -64, 1025, 1 << 32, 1<<32 + x.least, -1<<32 + x.least, low, low + x.least, high, high - 1} {
			refused(t, with(n), x.where, x.code)
		}
	}
}

// P13.1: each row of what is wrong, in the chapter's row, is told alone, and told ahead of each one that stands behind it.
func TestRows(t *testing.T) {
	rows := []struct {
		where string
		code  api.Errno
		spoil func(c *config.Config)
	}{
		{"intcap", api.ErrRange, func(c *config.Config) { c.IntCap = 65 }},
		{"fraccap", api.ErrRange, func(c *config.Config) { c.FracCap = 65 }},
		{"scale", api.ErrRange, func(c *config.Config) { c.Scale = -1 }},
		{"minint", api.ErrRange, func(c *config.Config) { c.MinInt = -1 }},
		{"minfrac", api.ErrRange, func(c *config.Config) { c.MinFrac = -1 }},
		{"mode", api.ErrNone, func(c *config.Config) { c.Mode = 7 }},
		{"history", api.ErrRange, func(c *config.Config) { c.History = 0 }},
		{"min", api.ErrForm, func(c *config.Config) { c.Min = "" }},
		{"min", api.ErrRange, func(c *config.Config) { c.Min = "0." + strings.Repeat("0", 1001) }},
		{"min", api.ErrFull, func(c *config.Config) { c.Min = "12345" }},
		{"max", api.ErrForm, func(c *config.Config) { c.Max = "1," }},
		{"max", api.ErrRange, func(c *config.Config) { c.Max = "1." + strings.Repeat("0", 1001) }},
		{"max", api.ErrFull, func(c *config.Config) { c.Max = "0.001" }},
		{"step", api.ErrForm, func(c *config.Config) { c.Step = ".5" }},
		{"step", api.ErrRange, func(c *config.Config) { c.Step = "2." + strings.Repeat("0", 1001) }},
		{"step", api.ErrFull, func(c *config.Config) { c.Step = "-10000.125" }},
		{"step", api.ErrRange, func(c *config.Config) { c.Step = "0.00" }},
		{"max", api.ErrRange, func(c *config.Config) { c.Max = "-99.51" }},
	}
	for i, one := range rows {
		refused(t, change(one.spoil), one.where, one.code)
		for k := range i {
			both := change(one.spoil)
			before := rows[k]
			before.spoil(&both)
			// Two that write the same field leave but the later one.
			refused(t, both, before.where, before.code)
		}
	}
	for i := range rows {
		all := good()
		for k := len(rows) - 1; k >= i; k-- {
			rows[k].spoil(&all)
		}
		refused(t, all, rows[i].where, rows[i].code)
	}
}

// P13.1: every limit at and beyond its ends, with each other one.
func TestLimitsEach(t *testing.T) {
	texts := []config.Config{{Min: "-1", Max: "2.5", Step: "0.01"}, {Min: "0", Max: "0", Step: "1"}, {Min: "x", Max: "100", Step: "0"}}
	n := 0
	for _, whole := range []int{low, 0, 1, 2, 64, 65} {
		for _, rest := range []int{-1, 0, 1, 2, 64, 65} {
			for _, scale := range []int{-1, 0, 1, 2, 64, 65} {
				for _, minInt := range []int{-1, 0, 1, 2, 64, 65} {
					for _, minFrac := range []int{-1, 0, 1, 2, 64, high} {
						for _, mode := range []int{-1, 0, 6, 7} {
							for _, history := range []int{0, 1, 1024, 1025} {
								c := texts[n%len(texts)]
								n++
								c.Limits = config.Limits{IntCap: whole, FracCap: rest, Scale: scale, MinInt: minInt, MinFrac: minFrac, Mode: mode, History: history}
								held(t, c)
							}
						}
					}
				}
			}
		}
	}
}

// P13.1: texts of every kind as Min, Max and Step, with others of many kinds, where few digits may be, and many.
func TestTextsEach(t *testing.T) {
	nines := strings.Repeat("9", 64)
	texts := []string{"0", "-0", "-0.00", "1", "-1", "7.5", "-7.5", "0.05", "-0.05", "9.99", "10", "-10", "0010.50", "99.9", "-99.99", "100", "1e1", "", "-", "+1",
		".5", "5.", "1.2.3", " 1", "1\x00", "\xff", "\u0661", nines, "-" + nines + "." + nines, nines + ".1" + nines, nines + "0", "0." + strings.Repeat("0", 1000),
		"0." + strings.Repeat("0", 1001), strings.Repeat("0", 3000) + "3", "1." + strings.Repeat("0", 999) + "1"}
	others := []string{"0", "1", "-0.05", "7.5", "10", "-99.99", "", "5.", nines, "0." + strings.Repeat("0", 1001)}
	for _, l := range []config.Limits{{IntCap: 1, History: 1}, {IntCap: 2, FracCap: 1, Scale: 1, History: 1}, {IntCap: 2, FracCap: 64, Scale: 0, History: 7}, {IntCap: 64, FracCap: 64, Scale: 64, History: 1024}} {
		for _, one := range texts {
			for _, a := range others {
				for _, b := range others {
					for _, x := range [][3]string{{one, a, b}, {a, one, b}, {a, b, one}} {
						held(t, config.Config{Min: x[0], Max: x[1], Step: x[2], Limits: l})
					}
				}
			}
		}
	}
}

// P13.2: noughts at a number's ends are no digits of it; what it is bound to besides, its bounds too, does not count.
func TestFits(t *testing.T) {
	r := made(t, change(func(c *config.Config) { c.Min, c.Max = "1", "2" }))
	for text, want := range map[string]bool{
		"0": true, "-0.000": true, "9999": true, "-9999.99": true, "10000": false, "-10000": false, "9999.990": true, "9999.991": false, "0.001": false, "-0.001": false,
		"0.01": true, "0.010": true, "0000009999.9900000": true, "00000010000": false, "1.5": true, "1000": true, "0." + strings.Repeat("0", 1000): true,
		"0." + strings.Repeat("0", 999) + "1": false, strings.Repeat("0", 3000) + "7": true,
	} {
		if is := r.Fits(parsed(t, text)); is != want {
			t.Errorf("Fits(%s): %t", text, is)
		}
	}
	for _, d := range bad() {
		if r.Fits(d) {
			t.Errorf("Fits(%v)", d)
		}
	}
}

// P13.2: numbers at the caps, and one digit beyond them, for each cap.
func TestFitsEach(t *testing.T) {
	for whole := 1; whole <= 64; whole += 3 {
		for scale := 0; scale <= 64; scale += 4 {
			l := config.Limits{IntCap: whole, FracCap: 64, Scale: scale, History: 1}
			r := made(t, config.Config{Min: "0", Max: "9", Step: "1", Limits: l})
			for _, ints := range []int{0, 1, whole - 1, whole, whole + 1, 65, 1000} {
				for _, rest := range []int{0, 1, max(scale-1, 0), scale, scale + 1, 65, 999} {
					d := parsed(t, "00"+strings.Repeat("6", ints)+"."+strings.Repeat("3", rest)+"0")
					if is, want := r.Fits(d), ints <= whole && rest <= scale; is != want || rest < 999 && fits(rat(d), l) != want {
						t.Fatalf("%+v: Fits(%s): %t", l, decimal.Print(d), is)
					}
				}
			}
		}
	}
}

// P13.2: Value at the bounds, next to them, in the middle of two, and beyond.
func TestValue(t *testing.T) {
	for _, x := range []struct {
		c        config.Config
		of, want string
	}{
		{bound("-10", "10", "1", 0, round.HalfEven), "9.5 10 10.4 10.5 11 -10.5 -99 0.5 1.5 2.5 -0.5 -1.5 0 -0 0010.0", "10 10 10 10 10 -10 -10 0 2 2 0 -2 0 0 10"},
		{bound("0", "99.5", "0.5", 1, round.Up), "-0.001 -5 0.01 99.41 99.5 99.51 7.25 7.2", "0 0 0.1 99.5 99.5 99.5 7.3 7.2"},
		{bound("-1.25", "-1.25", "1", 2, round.Floor), "0 -1.25 -1.251 -2 7", "-1.25 -1.25 -1.25 -1.25 -1.25"},
		{bound("0.15", "0.25", "1", 2, round.Down), "0.1 0.149 0.15 0.159 0.259 0.26 -3", "0.15 0.15 0.15 0.15 0.25 0.25 0.15"},
		{bound("-3.5", "3.5", "1", 1, round.Ceil), "-3.51 -3.59 -3.49 3.41 3.51 100", "-3.5 -3.5 -3.4 3.5 3.5 3.5"},
		{bound("-3", "3", "1", 2, round.HalfDown), "1.005 1.0051 -1.005 2.995 2.9951 1.500", "1 1.01 -1 2.99 3 1.5"},
		{bound("-3", "3", "1", 2, round.HalfUp), "1.005 1.0049 -1.005 2.995 3.00 -0.004 -0.005", "1.01 1 -1.01 3 3 0 -0.01"},
	} {
		r := made(t, x.c)
		want := strings.Fields(x.want)
		for i, text := range strings.Fields(x.of) {
			got, err := r.Value(parsed(t, text))
			same(t, "Value of "+text, got, err, trim(rat(parsed(t, want[i]))), api.OK)
		}
	}
}

// many is rules of many bounds, scales and modes.
func many(t *testing.T) []config.Rules {
	var all []config.Rules
	for _, x := range [][3]string{{"0", "0", "1"}, {"-1", "1", "1"}, {"0", "9", "3"}, {"-12", "-2", "7"}, {"3", "250", "10"}, {"-99999", "99999", "99999"}} {
		for scale := range 4 {
			for mode := range 7 {
				all = append(all, made(t, bound(x[0], x[1], x[2], scale, mode)))
			}
		}
	}
	for _, x := range [][3]string{{"-0.25", "0.75", "0.25"}, {"0.01", "4.44", "0.07"}, {"-7.5", "-0.5", "1.25"}} {
		for mode := range 7 {
			all = append(all, made(t, bound(x[0], x[1], x[2], 2, mode)))
		}
	}
	return all
}

// some is decimals of up to three digits and such a scale, of both signs, with noughts at their ends, and greater ones.
func some(t *testing.T) []decimal.Dec {
	var all []decimal.Dec
	for n := range 1000 {
		// From 100 on one of seven is enough: they have all last digits.
		if n >= 100 && n%7 != 0 {
			continue
		}
		l := []int{n / 100, n / 10 % 10, n % 10}
		for scale := range 5 {
			all = append(all, decimal.Dec{Neg: (n+scale)%2 == 0, L: l[scale%3:], Scale: scale}, decimal.Dec{Neg: (n+scale)%2 == 1, L: l, Scale: scale})
		}
	}
	for _, text := range []string{"12345678901234567890.125", "-98765432109876543210.875", "0." + strings.Repeat("0", 999) + "1", "-0." + strings.Repeat("9", 1000), "100000.0050"} {
		all = append(all, parsed(t, text))
	}
	return append(all, decimal.Dec{Neg: true}, decimal.Dec{Scale: 1000}, decimal.Dec{Neg: true, L: []int{0, 0, 0}, Scale: 2})
}

// P13.2, P13.3: Value of each number is the model's; it fits, is within the bounds, and is its own value.
func TestValueEach(t *testing.T) {
	numbers := some(t)
	for _, r := range many(t) {
		least, most := rat(r.Min), rat(r.Max)
		for _, d := range numbers {
			got, err := r.Value(d)
			call := "Value of " + decimal.Print(d) + ", " + strconv.Itoa(r.Scale) + ", " + round.Name(r.Mode)
			same(t, call, got, err, trim(worth(rat(d), r.Scale, r.Mode, least, most)), api.OK)
			again, err := r.Value(got)
			same(t, call+", again", again, err, got, api.OK)
			if !r.Fits(got) || decimal.Compare(got, r.Min) < 0 || decimal.Compare(got, r.Max) > 0 {
				t.Fatalf("%s: %v", call, got)
			}
		}
	}
}

// P13.2: Move at the bounds, to them, and beyond; what is moved is rounded with the steps, not ahead of them.
func TestMove(t *testing.T) {
	c := bound("-10", "99.5", "0.5", 0, round.HalfUp)
	c.Scale = 1
	r := made(t, c)
	for _, x := range []struct {
		d    string
		n    int
		want string
	}{
		{"7", -3, "5.5"}, {"7", 0, "7"}, {"7.25", 0, "7.3"}, {"7.25", 1, "7.8"}, {"99", 1, "99.5"}, {"99.5", 1, "99.5"}, {"99.4", 1, "99.5"}, {"99.5", -1, "99"},
		{"-10", -1, "-10"}, {"-9.5", -1, "-10"}, {"-9.4", -1, "-9.9"}, {"0", 1000, "99.5"}, {"0", -1000, "-10"}, {"-450", 1000, "50"}, {"545.5", -1000, "45.5"},
		{"1000", -1, "99.5"}, {"-1000", 1, "-10"}, {"0.5", -1, "0"}, {"-0", 0, "0"}, {"00.50", 2, "1.5"}, {"0.049", 1, "0.5"}, {"0.05", 1, "0.6"}, {"-0.55", 1, "-0.1"},
	} {
		got, err := r.Move(parsed(t, x.d), x.n)
		same(t, "Move of "+x.d+", "+strconv.Itoa(x.n), got, err, trim(rat(parsed(t, x.want))), api.OK)
	}
}

// P13.2, P13.3: Move of each number by some steps is the model's, fits, and is its own value.
func TestMoveEach(t *testing.T) {
	numbers := some(t)
	for i, r := range many(t) {
		least, most, step := rat(r.Min), rat(r.Max), rat(r.Step)
		for k := i % 11; k < len(numbers); k += 11 {
			for _, n := range []int{-1000, -999, -17, -2, -1, 0, 1, 2, 30, 999, 1000} {
				d := numbers[k]
				got, err := r.Move(d, n)
				call := "Move of " + decimal.Print(d) + ", " + strconv.Itoa(n)
				way := new(big.Rat).Mul(step, big.NewRat(int64(n), 1))
				same(t, call, got, err, trim(worth(way.Add(way, rat(d)), r.Scale, r.Mode, least, most)), api.OK)
				again, err := r.Value(got)
				same(t, call+", its value", again, err, got, api.OK)
				if !r.Fits(got) {
					t.Fatalf("%s: %v", call, got)
				}
			}
		}
	}
}

// P13.2, R2: what may not be is told ahead of steps out of their range.
func TestRefusals(t *testing.T) {
	beyond := []int{-1001, 1001, -1002, 1002, 1 << 32, 1<<32 + 1, -1<<32 + 1, low, low + 1, high}
	for _, r := range []config.Rules{made(t, good()), made(t, bound("0", "0", "1", 0, round.Down)), made(t, bound("-5", "5", "0.1", 64, round.Up))} {
		for _, d := range bad() {
			got, err := r.Value(d)
			same(t, "Value of a bad one", got, err, decimal.Dec{}, api.ErrArg)
			for _, n := range append([]int{-1000, -1, 0, 1, 1000}, beyond...) {
				got, err := r.Move(d, n)
				same(t, "Move of a bad one, "+strconv.Itoa(n), got, err, decimal.Dec{}, api.ErrArg)
			}
		}
		for _, text := range []string{"0", "-0", "7.25", "-1000000", "0." + strings.Repeat("0", 999) + "1"} {
			for _, n := range beyond {
				got, err := r.Move(parsed(t, text), n)
				same(t, "Move of "+text+", "+strconv.Itoa(n), got, err, decimal.Dec{}, api.ErrRange)
			}
		}
	}
}

// P13.2, P13.3: with as many digits as there may be.
func TestGreatest(t *testing.T) {
	nines := strings.Repeat("9", 64)
	most := nines + "." + nines
	r := made(t, bound("-"+most, most, most, 64, round.HalfEven))
	least, step := rat(r.Min), rat(r.Step)
	for _, text := range []string{"0", most, "-" + most, most + "5", most + "4", "-" + most + "6", nines + nines, "1" + strings.Repeat("0", 64), "0." + strings.Repeat("0", 63) + "15", "0." + strings.Repeat("4", 1000)} {
		d := parsed(t, text)
		got, err := r.Value(d)
		same(t, "Value of "+text, got, err, trim(worth(rat(d), 64, round.HalfEven, least, step)), api.OK)
		if again, err := r.Value(got); !r.Fits(got) || err != api.OK || !equal(again, got) {
			t.Fatalf("Value of %s: %v", text, got)
		}
		for _, n := range []int{-1000, -1, 0, 1, 1000} {
			got, err := r.Move(d, n)
			way := new(big.Rat).Mul(step, big.NewRat(int64(n), 1))
			same(t, "Move of "+text, got, err, trim(worth(way.Add(way, rat(d)), 64, round.HalfEven, least, step)), api.OK)
		}
	}
}

// answers is every list that rules, and their calls, answer.
func answers(t *testing.T, c config.Config, r config.Rules, numbers ...decimal.Dec) [][]int {
	again := made(t, c)
	all := [][]int{again.Min.L, again.Max.L, again.Step.L}
	for _, d := range numbers {
		r.Fits(d)
		for n := -2; n <= 2; n++ {
			v, _ := r.Value(d)
			m, _ := r.Move(d, n)
			all = append(all, v.L, m.L)
		}
	}
	return all
}

// R4, R5: what is handed in stays, its spare room and the rules too; what is answered is new, and the same once more.
func TestNewMemory(t *testing.T) {
	c := change(func(c *config.Config) { c.Max = c.Step })
	r := made(t, c)
	var numbers []decimal.Dec
	var rooms, kept [][]int
	for _, text := range []string{"12", "-12.5", "0.125", "-99.5", "0.5", "-1000", "0", "7.250"} {
		d := parsed(t, text)
		rooms = append(rooms, append(slices.Clone(d.L), 7, 7, 7))
		d.L = rooms[len(rooms)-1][:len(d.L)]
		numbers = append(numbers, d)
	}
	rooms = append(rooms, r.Min.L, r.Max.L, r.Step.L)
	for _, room := range rooms {
		kept = append(kept, slices.Clone(room))
	}
	first := answers(t, c, r, numbers...)
	was := make([][]int, len(first))
	for i, l := range first {
		was[i] = slices.Clone(l)
	}
	for i, l := range first {
		for k := range l {
			l[k] = -100 - i
		}
		_ = append(l, -100-i)
	}
	for i, l := range first {
		if slices.ContainsFunc(l, func(x int) bool { return x != -100-i }) {
			t.Fatalf("%d: shares its memory with another one", l)
		}
	}
	for i, room := range rooms {
		if !slices.Equal(room, kept[i]) {
			t.Fatalf("%d, not %d", room, kept[i])
		}
	}
	for i, l := range answers(t, c, r, numbers...) {
		if !slices.Equal(l, was[i]) {
			t.Fatalf("%d, not %d", l, was[i])
		}
	}
	// Configurations, and what they embed, are held against each other.
	if c == good() || c.Limits != good().Limits {
		t.Fatal(c)
	}
}

// R1: texts and decimals of many digits end soon.
func TestLong(t *testing.T) {
	long := strings.Repeat("9", 1<<20)
	refused(t, change(func(c *config.Config) { c.Min = "-" + long }), "min", api.ErrFull)
	refused(t, change(func(c *config.Config) { c.Max = long + "x" }), "max", api.ErrForm)
	refused(t, change(func(c *config.Config) { c.Step = "0." + long }), "step", api.ErrRange)
	r := made(t, change(func(c *config.Config) { c.Min = "-" + strings.Repeat("0", 1<<20) + "7" }))
	d := parsed(t, "-"+long+".5")
	if r.Fits(d) {
		t.Fatal("Fits")
	}
	got, err := r.Value(d)
	same(t, "Value", got, err, r.Min, api.OK)
	d.Neg = false
	got, err = r.Move(d, -1000)
	same(t, "Move", got, err, r.Max, api.OK)
}

func BenchmarkMove(b *testing.B) {
	r := made(b, good())
	d := parsed(b, "123.456")
	for range b.N {
		r.Move(d, -7)
	}
}
