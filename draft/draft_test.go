package draft_test

import (
	"math/big"
	"slices"
	"strings"
	"testing"

	"abacist/api"
	"abacist/decimal"
	"abacist/draft"
)

const (
	low  = -1 << 63
	high = 1<<63 - 1
)

// The model: a draft is its text, and an atom a byte of it.

// digits is a list from its text.
func digits(text string) []int {
	var l []int
	for _, b := range []byte(text) {
		l = append(l, int(b)-48)
	}
	return l
}

// made is the draft that has a text.
func made(text string) draft.Draft {
	text, neg := strings.CutPrefix(text, "-")
	whole, rest, sep := strings.Cut(text, ".")
	return draft.Draft{Neg: neg, Int: digits(whole), Sep: sep, Frac: digits(rest)}
}

// atoms is the atoms that a text without a sign has.
func atoms(text string) []int {
	var l []int
	for _, b := range []byte(text) {
		if b == '.' {
			l = append(l, 10)
		} else {
			l = append(l, int(b)-48)
		}
	}
	return l
}

// eachText tells every text of up to so many of these bytes.
func eachText(of string, most int, tell func(text string)) {
	var longer func(text string)
	longer = func(text string) {
		tell(text)
		if len(text) == most {
			return
		}
		for _, b := range []byte(of) {
			longer(text + string(b))
		}
	}
	longer("")
}

// drafts is the texts of all drafts of up to so many atoms, with the sign and without.
func drafts(most int) []string {
	var l []string
	eachText("019.", most, func(text string) {
		if strings.Count(text, ".") <= 1 {
			l = append(l, text, "-"+text)
		}
	})
	return l
}

// worth is a text's number.
func worth(t testing.TB, text string) *big.Rat {
	t.Helper()
	text, neg := strings.CutPrefix(text, "-")
	whole, rest, _ := strings.Cut(text, ".")
	n, ok := new(big.Rat).SetString("0" + whole + "." + rest + "0")
	if !ok {
		t.Fatal(text)
	}
	if neg {
		n.Neg(n)
	}
	return n
}

// rat is a decimal's number, by chapter 6's words.
func rat(t testing.TB, d decimal.Dec) *big.Rat {
	t.Helper()
	b := []byte{'0'}
	for _, x := range d.L {
		b = append(b, '0'+byte(x))
	}
	n, ok := new(big.Int).SetString(string(b), 10)
	if !ok {
		t.Fatal(d)
	}
	if d.Neg {
		n.Neg(n)
	}
	return new(big.Rat).SetFrac(n, new(big.Int).Exp(big.NewInt(10), big.NewInt(int64(d.Scale)), nil))
}

// isTrim tells whether a decimal is trim, by chapter 6's words.
func isTrim(d decimal.Dec) bool {
	if len(d.L) == 0 {
		return !d.Neg && d.Scale == 0
	}
	return d.L[0] != 0 && (d.Scale == 0 || d.L[len(d.L)-1] != 0)
}

// equal tells whether two drafts are the same in every field.
func equal(a, b draft.Draft) bool {
	return a.Neg == b.Neg && a.Sep == b.Sep && slices.Equal(a.Int, b.Int) && slices.Equal(a.Frac, b.Frac)
}

// same holds an answer against a draft and an error.
func same(t *testing.T, got draft.Draft, err api.Errno, want draft.Draft, fails api.Errno, call ...any) {
	t.Helper()
	if err != fails || !equal(got, want) {
		t.Fatalf("%v: %v, %d, not %v, %d", call, got, err, want, fails)
	}
}

// numbers is what is no digit.
func numbers() []int {
	return []int{-1, -2, -10, 11, 12, 46, 48, 57, 1<<8 + 5, 1<<32 + 9, -1<<32 + 3, 1 << 62, low, low + 1, high}
}

// wrong is what is no draft: one of its digits, or digits behind a separator that is not there.
func wrong() []draft.Draft {
	all := []draft.Draft{{Frac: []int{0}}, {Frac: []int{1, 2}}, {Int: []int{1}, Frac: []int{5}}, {Neg: true, Int: []int{1}, Frac: []int{0}},
		{Frac: []int{10}}, {Int: []int{-1}, Frac: []int{1}}}
	for _, x := range append(numbers(), 10) {
		for _, l := range [][]int{{x}, {x, 1, 2}, {1, x, 2}, {1, 2, x}, {0, 0, x}} {
			all = append(all, draft.Draft{Int: l}, draft.Draft{Neg: true, Int: l, Sep: true, Frac: []int{1}},
				draft.Draft{Sep: true, Frac: l}, draft.Draft{Neg: true, Int: []int{1}, Sep: true, Frac: l},
				draft.Draft{Int: l, Sep: true, Frac: l}, draft.Draft{Int: l, Sep: true})
		}
	}
	return all
}

// What the other tests go through is whole: each text once.
func TestEachText(t *testing.T) {
	told := map[string]int{}
	eachText("019.", 3, func(text string) { told[text]++ })
	if len(told) != 1+4+16+64 || told[""] != 1 || told["1"] != 1 || told["9."] != 1 || told[".01"] != 1 {
		t.Error(len(told), told)
	}
	if n := len(drafts(2)); n != 2*(1+4+15) {
		t.Error(n)
	}
}

func TestExamples(t *testing.T) {
	d, err := draft.Splice(made("12."), 1, 1, 1)
	same(t, d, err, made("112."), 0)
	if l := draft.Atoms(d); !slices.Equal(l, []int{1, 1, 2, 10}) {
		t.Error(l)
	}
	if draft.Point != 10 {
		t.Error(draft.Point)
	}
}

// P14.1: both lists are of digits, and none is behind where there is no separator.
func TestMay(t *testing.T) {
	for _, d := range []draft.Draft{{}, {Neg: true}, {Sep: true}, {Neg: true, Sep: true}, {Int: []int{}, Frac: []int{}}, {Int: []int{0, 1, 2, 3, 4, 5, 6, 7, 8, 9}},
		{Sep: true, Frac: []int{9, 8, 7, 6, 5, 4, 3, 2, 1, 0}}, {Int: []int{0, 0}, Sep: true}, {Sep: true, Frac: []int{0, 0}}, {Int: []int{1}, Frac: []int{}},
		{Neg: true, Int: []int{1}, Sep: true, Frac: []int{5, 0}}, {Int: make([]int, 5000), Sep: true, Frac: make([]int, 5000)}} {
		if !draft.May(d) {
			t.Errorf("May(%v)", d)
		}
	}
	for _, d := range wrong() {
		if draft.May(d) {
			t.Errorf("May(%v)", d)
		}
	}
	for n := -100; n <= 100; n++ {
		is := n >= 0 && n <= 9
		if draft.May(draft.Draft{Int: []int{1, n}}) != is || draft.May(draft.Draft{Sep: true, Frac: []int{1, n}}) != is || draft.May(draft.Draft{Frac: []int{1, n}}) {
			t.Errorf("May of the digit %d", n)
		}
	}
	for _, text := range drafts(4) {
		if !draft.May(made(text)) {
			t.Errorf("May(%s)", text)
		}
	}
}

// P14.1: what stands ahead of the separator, and behind it.
func TestOf(t *testing.T) {
	for _, x := range []struct {
		neg   bool
		atoms []int
		want  draft.Draft
	}{
		{false, nil, draft.Draft{}}, {true, nil, draft.Draft{Neg: true}}, {true, []int{}, draft.Draft{Neg: true}},
		{false, []int{10}, draft.Draft{Sep: true}}, {true, []int{10}, draft.Draft{Neg: true, Sep: true}},
		{false, []int{7}, draft.Draft{Int: []int{7}}}, {true, []int{0, 0, 7}, draft.Draft{Neg: true, Int: []int{0, 0, 7}}},
		{false, []int{1, 2, 10}, draft.Draft{Int: []int{1, 2}, Sep: true}}, {false, []int{10, 5, 0}, draft.Draft{Sep: true, Frac: []int{5, 0}}},
		{true, []int{1, 2, 10, 3, 0}, draft.Draft{Neg: true, Int: []int{1, 2}, Sep: true, Frac: []int{3, 0}}},
		{false, []int{0, 10, 0}, draft.Draft{Int: []int{0}, Sep: true, Frac: []int{0}}},
	} {
		d, err := draft.Of(x.neg, x.atoms...)
		same(t, d, err, x.want, 0, x.neg, x.atoms)
	}
	d, err := draft.Of(true, 1, draft.Point, 2)
	same(t, d, err, made("-1.2"), 0)
}

// P14.1: a number that is no atom, wherever it stands, is told of ahead of the separator that comes twice.
func TestOfRefuses(t *testing.T) {
	for _, neg := range []bool{false, true} {
		for _, x := range numbers() {
			for _, l := range [][]int{{x}, {x, 1}, {1, x}, {1, x, 2}, {1, 10, x}, {x, 10, 1}, {10, 10, x}, {x, 10, 10}, {10, x, 10}, {1, 10, 2, 10, x}, {x, x}} {
				d, err := draft.Of(neg, l...)
				same(t, d, err, draft.Draft{}, api.ErrArg, neg, l)
			}
		}
		for _, l := range [][]int{{10, 10}, {10, 10, 10}, {1, 10, 10}, {10, 1, 10}, {10, 10, 1}, {1, 10, 2, 10, 3}, {10, 1, 2, 3, 10}} {
			d, err := draft.Of(neg, l...)
			same(t, d, err, draft.Draft{}, api.ErrTwice, neg, l)
		}
	}
	for n := -100; n <= 100; n++ {
		if _, err := draft.Of(false, n); (err == api.OK) != (n >= 0 && n <= 10) {
			t.Errorf("Of(%d): %d", n, err)
		}
	}
}

// P14.1: every short list of atoms, and of some that are none (a slash is -1).
func TestOfEach(t *testing.T) {
	eachText("019./", 6, func(text string) {
		want, fails := draft.Draft{}, api.OK
		switch {
		case strings.Contains(text, "/"):
			fails = api.ErrArg
		case strings.Count(text, ".") > 1:
			fails = api.ErrTwice
		default:
			want = made(text)
		}
		d, err := draft.Of(false, atoms(text)...)
		same(t, d, err, want, fails, text)
		want.Neg = fails == api.OK
		d, err = draft.Of(true, atoms(text)...)
		same(t, d, err, want, fails, text)
	})
}

// P14.1: every field counts, of drafts that may not be too; nil and empty are one.
func TestSame(t *testing.T) {
	one := func() draft.Draft { return made("-12.50") }
	if !draft.Same(one(), one()) {
		t.Error("not the same")
	}
	for i, with := range []func(d *draft.Draft){
		func(d *draft.Draft) { d.Neg = false }, func(d *draft.Draft) { d.Sep = false },
		func(d *draft.Draft) { d.Int = []int{1} }, func(d *draft.Draft) { d.Int = []int{1, 3} }, func(d *draft.Draft) { d.Int = []int{2, 1} },
		func(d *draft.Draft) { d.Int = []int{0, 1, 2} }, func(d *draft.Draft) { d.Int = nil },
		func(d *draft.Draft) { d.Frac = []int{5} }, func(d *draft.Draft) { d.Frac = []int{5, 0, 0} }, func(d *draft.Draft) { d.Frac = nil },
		func(d *draft.Draft) { d.Frac = []int{0, 5} }, func(d *draft.Draft) { d.Int, d.Frac = d.Frac, d.Int },
	} {
		d := one()
		with(&d)
		if draft.Same(d, one()) || draft.Same(one(), d) || !draft.Same(d, d) {
			t.Error(i)
		}
	}
	if !draft.Same(draft.Draft{}, draft.Draft{Int: []int{}, Frac: []int{}}) || draft.Same(draft.Draft{}, draft.Draft{Sep: true}) {
		t.Error("empty")
	}
	for i, d := range wrong() {
		for j, e := range wrong() {
			if i == j && !draft.Same(d, e) || draft.Same(d, e) != equal(d, e) {
				t.Error(d, e)
			}
		}
	}
	all := drafts(3)
	for _, a := range all {
		for _, b := range all {
			if draft.Same(made(a), made(b)) != (a == b) {
				t.Errorf("%s, %s", a, b)
			}
		}
	}
}

// P14.2: empty lists, with the separator and without, with the sign and without.
func TestEmpty(t *testing.T) {
	for _, x := range []struct {
		d     draft.Draft
		atoms []int
		text  string
	}{
		{draft.Draft{}, nil, ""}, {draft.Draft{Neg: true}, nil, "-"}, {draft.Draft{Sep: true}, []int{10}, "."},
		{draft.Draft{Neg: true, Sep: true}, []int{10}, "-."}, {draft.Draft{Int: []int{}, Frac: []int{}}, nil, ""},
		{draft.Draft{Int: []int{}, Sep: true, Frac: []int{}}, []int{10}, "."},
		{draft.Draft{Int: []int{0}}, []int{0}, "0"}, {draft.Draft{Int: []int{7}, Sep: true}, []int{7, 10}, "7."},
		{draft.Draft{Sep: true, Frac: []int{7}}, []int{10, 7}, ".7"}, {draft.Draft{Neg: true, Sep: true, Frac: []int{0}}, []int{10, 0}, "-.0"},
	} {
		if l := draft.Atoms(x.d); !slices.Equal(l, x.atoms) {
			t.Errorf("Atoms(%v): %v", x.d, l)
		}
		if n := draft.Len(x.d); n != len(x.atoms) {
			t.Errorf("Len(%v): %d", x.d, n)
		}
		if s := draft.Text(x.d); s != x.text {
			t.Errorf("Text(%v): %s", x.d, s)
		}
		whole, rest := len(x.d.Int), len(x.d.Frac)
		if !draft.Fits(x.d, whole, rest) || draft.Fits(x.d, whole-1, rest) || draft.Fits(x.d, whole, rest-1) {
			t.Errorf("Fits(%v)", x.d)
		}
		if whole+rest == 0 {
			if d := draft.Dec(x.d); d.Neg || len(d.L) != 0 || d.Scale != 0 {
				t.Errorf("Dec(%v): %v", x.d, d)
			}
		}
	}
}

// P14.2, P14.5: every short draft is its text's, its atoms are the text's, and it is that of its atoms.
func TestAtomsEach(t *testing.T) {
	for _, text := range drafts(5) {
		d, bare := made(text), strings.TrimPrefix(text, "-")
		l := draft.Atoms(d)
		if !slices.Equal(l, atoms(bare)) {
			t.Fatalf("Atoms of %s: %v", text, l)
		}
		if n := draft.Len(d); n != len(bare) {
			t.Fatalf("Len of %s: %d", text, n)
		}
		if s := draft.Text(d); s != text {
			t.Fatalf("Text of %s: %s", text, s)
		}
		back, err := draft.Of(d.Neg, l...)
		same(t, back, err, d, 0, text)
		if !draft.Same(back, d) {
			t.Fatal(text)
		}
	}
}

// P14.2: each list alone is held against its own limit; sign and separator do not count.
func TestFits(t *testing.T) {
	for _, text := range []string{"", "-", ".", "-.", "1", "-1", "1.", "12", "012", ".5", "-.50", "1.5", "-12.5", "1.50", "000.000"} {
		whole, rest, _ := strings.Cut(strings.TrimPrefix(text, "-"), ".")
		for _, i := range []int{low, -1, 0, 1, 2, 3, 4, 64, 65, high} {
			for _, j := range []int{low, -1, 0, 1, 2, 3, 4, 64, 65, high} {
				if fits := draft.Fits(made(text), i, j); fits != (len(whole) <= i && len(rest) <= j) {
					t.Errorf("Fits(%s, %d, %d): %t", text, i, j, fits)
				}
			}
		}
	}
	long := draft.Draft{Int: make([]int, 64), Sep: true, Frac: make([]int, 64)}
	if !draft.Fits(long, 64, 64) || draft.Fits(long, 63, 64) || draft.Fits(long, 64, 63) {
		t.Error("64 digits")
	}
}

// P14.2: the number, trim.
func TestDec(t *testing.T) {
	for text, want := range map[string]decimal.Dec{
		"": {}, "-": {}, ".": {}, "-.": {}, "0": {}, "-0": {}, "-0.00": {}, ".0": {}, "7": {L: []int{7}}, "-7.": {Neg: true, L: []int{7}},
		"007": {L: []int{7}}, "700": {L: []int{7, 0, 0}}, "700.00": {L: []int{7, 0, 0}}, ".7": {L: []int{7}, Scale: 1}, "-.70": {Neg: true, L: []int{7}, Scale: 1},
		"0.07": {L: []int{7}, Scale: 2}, "-10.50": {Neg: true, L: []int{1, 0, 5}, Scale: 1}, "1.005": {L: []int{1, 0, 0, 5}, Scale: 3}, "10.0": {L: []int{1, 0}},
	} {
		d := draft.Dec(made(text))
		if d.Neg != want.Neg || d.Scale != want.Scale || !slices.Equal(d.L, want.L) {
			t.Errorf("Dec of %q: %v, not %v", text, d, want)
		}
	}
}

// P14.2: every short draft's number, over fractions.
func TestDecEach(t *testing.T) {
	for _, text := range drafts(6) {
		d := draft.Dec(made(text))
		if !isTrim(d) || rat(t, d).Cmp(worth(t, text)) != 0 {
			t.Fatalf("Dec of %s: %v", text, d)
		}
	}
}

// P14.2: as many digits as one likes; noughts at the end are not in the way of what a decimal may have.
func TestDecOfMany(t *testing.T) {
	nines := strings.Repeat("9", 1000)
	for _, text := range []string{nines, "-" + nines + "." + nines, "." + nines, "-1." + nines + strings.Repeat("0", 500), "1." + strings.Repeat("0", 2000),
		"." + strings.Repeat("0", 999) + "10", "0." + strings.Repeat("0", 1001), strings.Repeat("0", 3000) + "7.50"} {
		d := draft.Dec(made(text))
		if !decimal.May(d) || !isTrim(d) || rat(t, d).Cmp(worth(t, text)) != 0 {
			t.Errorf("Dec of %.20s.. (%d): scale %d", text, len(text), d.Scale)
		}
	}
	// No decimal has that number: what is told of it is none, and not another number.
	if d := draft.Dec(made("." + nines + "9")); decimal.May(d) {
		t.Error(d.Scale)
	}
}

// P14.3: at both ends, at the separator, in its place, and in the place of all.
func TestSplice(t *testing.T) {
	for _, x := range []struct {
		d    string
		i, j int
		with string
		want string
	}{
		{"", 0, 0, "", ""}, {"-", 0, 0, "", "-"}, {"", 0, 0, "7", "7"}, {"-", 0, 0, ".5", "-.5"}, {"", 0, 0, "12.50", "12.50"},
		{"12.5", 0, 0, "9", "912.5"}, {"12.5", 4, 4, "9", "12.59"}, {"12.5", 0, 0, "", "12.5"}, {"12.5", 4, 4, "", "12.5"},
		{"12.5", 2, 2, "9", "129.5"}, {"12.5", 3, 3, "9", "12.95"}, {"12.5", 2, 3, "", "125"}, {"12.5", 2, 3, ".", "12.5"}, {"12.5", 2, 3, "9", "1295"},
		{"12.5", 2, 3, "9.9", "129.95"}, {"12.5", 1, 4, "", "1"}, {"12.5", 0, 3, "", "5"}, {"12.5", 0, 3, ".", ".5"}, {"12.5", 1, 3, "0.", "10.5"},
		{"12.5", 0, 2, "", ".5"}, {"12.5", 3, 4, "", "12."}, {"-12.5", 0, 4, "", "-"}, {"-12.5", 0, 4, "0", "-0"}, {"12.5", 0, 4, ".", "."},
		{"12", 0, 0, ".", ".12"}, {"12", 1, 1, ".", "1.2"}, {"12", 2, 2, ".", "12."}, {"-12", 0, 2, ".7", "-.7"}, {".", 0, 0, "1", "1."}, {".", 1, 1, "1", ".1"},
		{".", 0, 1, "", ""}, {"-.5", 0, 1, "", "-5"}, {"00", 1, 1, "0", "000"}, {"12.", 3, 3, "3", "12.3"},
	} {
		d, err := draft.Splice(made(x.d), x.i, x.j, atoms(x.with)...)
		same(t, d, err, made(x.want), 0, x)
	}
}

// P14.3: each error, and which of two tells.
func TestSpliceRefuses(t *testing.T) {
	for _, x := range []struct {
		d     string
		i, j  int
		atoms []int
		fails api.Errno
	}{
		{"12.5", 0, 0, []int{11}, api.ErrArg}, {"12.5", 0, 0, []int{-1}, api.ErrArg}, {"12.5", 1, 2, []int{1, 2, 11}, api.ErrArg},
		{"12.5", -1, 0, []int{11}, api.ErrArg}, {"12.5", 2, 1, []int{-1}, api.ErrArg}, {"12.5", 0, 5, []int{1, high}, api.ErrArg}, {"12.5", 0, 0, []int{10, 11}, api.ErrArg},
		{"12.5", 0, 0, []int{low, 10, 10}, api.ErrArg}, {"", 5, 3, []int{11}, api.ErrArg},
		{"12.5", -1, 0, nil, api.ErrRange}, {"12.5", -1, 5, nil, api.ErrRange}, {"12.5", 1, 0, nil, api.ErrRange}, {"12.5", 4, 3, []int{1}, api.ErrRange},
		{"12.5", 0, 5, nil, api.ErrRange}, {"12.5", 5, 5, nil, api.ErrRange}, {"12.5", 5, 4, nil, api.ErrRange}, {"-12.5", 5, 5, []int{1}, api.ErrRange},
		{"12.5", low, 0, nil, api.ErrRange}, {"12.5", 0, high, nil, api.ErrRange}, {"12.5", low, high, nil, api.ErrRange}, {"12.5", high, high, nil, api.ErrRange},
		{"12.5", low, low, nil, api.ErrRange}, {"12.5", high, low, nil, api.ErrRange}, {"", 0, 1, nil, api.ErrRange}, {"", 1, 1, nil, api.ErrRange}, {"-", 0, 1, nil, api.ErrRange},
		{"12.5", -1, 0, []int{10}, api.ErrRange}, {"12.5", 3, 1, []int{10}, api.ErrRange}, {"12.5", 0, 5, []int{10}, api.ErrRange}, {"12", 0, 3, []int{10, 10}, api.ErrRange},
		{"12.5", 0, 0, []int{10}, api.ErrTwice}, {"12.5", 4, 4, []int{10}, api.ErrTwice}, {"12.5", 2, 2, []int{10}, api.ErrTwice}, {"12.5", 3, 3, []int{10}, api.ErrTwice},
		{"12.5", 0, 2, []int{10}, api.ErrTwice}, {"12.5", 3, 4, []int{10}, api.ErrTwice}, {"12.5", 2, 3, []int{10, 10}, api.ErrTwice}, {"-12", 0, 2, []int{10, 1, 10}, api.ErrTwice},
		{"", 0, 0, []int{10, 10}, api.ErrTwice}, {".", 1, 1, []int{10}, api.ErrTwice},
	} {
		d, err := draft.Splice(made(x.d), x.i, x.j, x.atoms...)
		same(t, d, err, draft.Draft{}, x.fails, x)
	}
}

// P14.3: what may not be is told of ahead of all else.
func TestSpliceOfWrong(t *testing.T) {
	for _, d := range wrong() {
		for _, at := range [][2]int{{0, 0}, {-1, 0}, {1, 0}, {0, 100}, {high, low}, {0, len(d.Int) + len(d.Frac)}} {
			for _, l := range [][]int{nil, {1}, {10, 10}, {11}, {-1, 10}} {
				got, err := draft.Splice(d, at[0], at[1], l...)
				same(t, got, err, draft.Draft{}, api.ErrArg, d, at, l)
			}
		}
	}
}

// P14.3: every short list in the place of every slice of every short draft, and places beside them.
func TestSpliceEach(t *testing.T) {
	var with []string
	eachText("07./", 2, func(text string) { with = append(with, text) })
	for _, text := range drafts(4) {
		bare, neg := strings.CutPrefix(text, "-")
		for _, w := range with {
			for i := -2; i <= len(bare)+2; i++ {
				for j := -2; j <= len(bare)+2; j++ {
					want, fails := draft.Draft{}, api.OK
					switch {
					case strings.Contains(w, "/"):
						fails = api.ErrArg
					case i < 0 || j < i || j > len(bare):
						fails = api.ErrRange
					case strings.Count(bare[:i]+w+bare[j:], ".") > 1:
						fails = api.ErrTwice
					default:
						want = made(bare[:i] + w + bare[j:])
						want.Neg = neg
					}
					d, err := draft.Splice(made(text), i, j, atoms(w)...)
					same(t, d, err, want, fails, text, i, j, w)
				}
			}
		}
	}
}

// dec is a decimal from its digits, written as a text.
func dec(neg bool, text string, scale int) decimal.Dec {
	return decimal.Dec{Neg: neg, L: digits(text), Scale: scale}
}

// filled is the text of the draft of a number, by the chapter's words.
func filled(x decimal.Dec, whole, rest int) string {
	b := []byte(strings.Repeat("0", x.Scale))
	for _, n := range x.L {
		b = append(b, '0'+byte(n))
	}
	point := len(b) - x.Scale
	ahead, behind := strings.TrimLeft(string(b[:point]), "0"), strings.TrimRight(string(b[point:]), "0")
	below := x.Neg && ahead+behind != ""
	ahead = strings.Repeat("0", max(whole-len(ahead), 0)) + ahead
	behind += strings.Repeat("0", max(rest-len(behind), 0))
	text := ahead
	if behind != "" {
		text += "." + behind
	}
	if text == "" {
		text = "0"
	}
	if below {
		text = "-" + text
	}
	return text
}

// P14.4: 0, numbers below 0, noughts ahead and behind that are asked for.
func TestFrom(t *testing.T) {
	for _, x := range []struct {
		x           decimal.Dec
		whole, rest int
		want        string
	}{
		{decimal.Dec{}, 0, 0, "0"}, {decimal.Dec{}, 1, 0, "0"}, {decimal.Dec{}, 3, 0, "000"}, {decimal.Dec{}, 0, 1, ".0"}, {decimal.Dec{}, 0, 2, ".00"}, {decimal.Dec{}, 2, 2, "00.00"},
		{dec(true, "", 0), 0, 0, "0"}, {dec(true, "000", 2), 0, 0, "0"}, {dec(true, "00", 1), 1, 1, "0.0"}, {dec(false, "0", 1000), 0, 0, "0"},
		{dec(false, "7", 0), 0, 0, "7"}, {dec(false, "7", 0), 1, 1, "7.0"}, {dec(true, "7", 0), 3, 2, "-007.00"}, {dec(false, "007", 0), 0, 0, "7"}, {dec(false, "007", 0), 2, 0, "07"},
		{dec(false, "5", 1), 0, 0, ".5"}, {dec(true, "5", 1), 0, 0, "-.5"}, {dec(true, "5", 1), 1, 2, "-0.50"}, {dec(false, "5", 3), 0, 0, ".005"}, {dec(false, "5", 3), 1, 2, "0.005"},
		{dec(false, "1250", 2), 0, 0, "12.5"}, {dec(false, "1250", 2), 2, 1, "12.5"}, {dec(true, "1250", 2), 3, 3, "-012.500"}, {dec(false, "1200", 2), 0, 0, "12"}, {dec(false, "1200", 2), 1, 1, "12.0"},
		{dec(true, "10", 1), 0, 0, "-1"}, {dec(false, "100", 0), 0, 0, "100"}, {dec(false, "100", 0), 4, 1, "0100.0"}, {dec(false, "123456", 3), 2, 2, "123.456"},
	} {
		d, err := draft.From(x.x, x.whole, x.rest)
		same(t, d, err, made(x.want), 0, x.x, x.whole, x.rest)
	}
}

// P14.4: ErrArg of what is no decimal, ahead of ErrRange of too many noughts.
func TestFromRefuses(t *testing.T) {
	counts := []int{low, low + 1, -64, -2, -1, 0, 1, 63, 64, 65, 66, 1000, 1 << 32, 1<<32 + 1, high}
	good := []decimal.Dec{{}, dec(true, "1250", 2), dec(false, "7", 1000), {L: make([]int, 100)}}
	bad := []decimal.Dec{{Scale: -1}, {Scale: 1001}, {Scale: low}, {Scale: high}, {L: []int{10}}, {L: []int{-1}}, {Neg: true, L: []int{1, 2, 11}, Scale: 2}, {L: []int{high}, Scale: 1001}}
	for _, whole := range counts {
		for _, rest := range counts {
			for _, x := range bad {
				d, err := draft.From(x, whole, rest)
				same(t, d, err, draft.Draft{}, api.ErrArg, x, whole, rest)
			}
			for _, x := range good {
				want, fails := draft.Draft{}, api.ErrRange
				if whole >= 0 && whole <= 64 && rest >= 0 && rest <= 64 {
					want, fails = made(filled(x, whole, rest)), api.OK
				}
				d, err := draft.From(x, whole, rest)
				same(t, d, err, want, fails, x, whole, rest)
			}
		}
	}
}

// P14.4, P14.5: every short decimal, with every number of noughts near its own; the draft may be, and has that number.
func TestFromEach(t *testing.T) {
	eachText("0195", 4, func(text string) {
		for scale := range 6 {
			for _, neg := range []bool{false, true} {
				x := dec(neg, text, scale)
				for whole := range 6 {
					for rest := range 7 {
						d, err := draft.From(x, whole, rest)
						same(t, d, err, made(filled(x, whole, rest)), 0, x, whole, rest)
						checkNumber(t, d, x)
					}
				}
			}
		}
	})
}

// checkNumber holds a draft's number against the decimal that it is of.
func checkNumber(t *testing.T, d draft.Draft, x decimal.Dec) {
	t.Helper()
	got := draft.Dec(d)
	if !draft.May(d) || !isTrim(got) || rat(t, got).Cmp(rat(t, x)) != 0 {
		t.Fatalf("%v: %v: %v", x, d, got)
	}
}

// P14.4, P14.5: up to all the noughts that may be asked for, and numbers of many digits.
func TestFromOfMany(t *testing.T) {
	for _, n := range []int{1, 63, 64, 65, 999, 1000, 1001, 1500} {
		for _, scale := range []int{0, 1, 63, 64, 65, 999, 1000} {
			for _, text := range []string{strings.Repeat("9", n), "1" + strings.Repeat("0", n-1), strings.Repeat("0", n-1) + "1", strings.Repeat("0", n)} {
				for _, least := range [][2]int{{0, 0}, {64, 0}, {0, 64}, {64, 64}, {63, 1}} {
					x := dec(n%2 == 0, text, scale)
					d, err := draft.From(x, least[0], least[1])
					same(t, d, err, made(filled(x, least[0], least[1])), 0, n, scale, least)
					checkNumber(t, d, x)
				}
			}
		}
	}
}

// P14.5: a draft is brought back from its number where it has no more noughts than are asked for.
func TestWayBack(t *testing.T) {
	for _, text := range drafts(5) {
		d := made(text)
		// The number has no sign of 0, no separator without digits, and no draft without atoms.
		zero := worth(t, text).Sign() == 0
		if zero && d.Neg || d.Sep && len(d.Frac) == 0 || draft.Len(d) == 0 {
			continue
		}
		back, err := draft.From(draft.Dec(d), len(d.Int), len(d.Frac))
		same(t, back, err, d, 0, text)
	}
}

// roomy is a list with spare room behind it, and that room.
func roomy(text string) ([]int, []int) {
	all := append(digits(text), 77, 77, 77, 77, 77, 77, 77, 77)
	n := len(text)
	return all[:n], all[n:]
}

// spoil writes over a list, and over the room behind it.
func spoil(l []int) {
	l = l[:cap(l)]
	for i := range l {
		l[i] = 55
	}
}

// R4: what is handed in stays as it is, its spare room too.
func TestHandedIn(t *testing.T) {
	whole, ahead := roomy("12")
	rest, behind := roomy("50")
	put, room := roomy("34")
	number, spare := roomy("0120")
	d := draft.Draft{Neg: true, Int: whole, Sep: true, Frac: rest}
	x := decimal.Dec{Neg: true, L: number, Scale: 2}
	check := func(call string) {
		t.Helper()
		if draft.Text(d) != "-12.50" || !slices.Equal(put, []int{3, 4}) || !slices.Equal(number, []int{0, 1, 2, 0}) || !x.Neg || x.Scale != 2 {
			t.Errorf("%s: %v, %v, %v", call, d, put, x)
		}
		for _, l := range [][]int{ahead, behind, room, spare} {
			for _, n := range l {
				if n != 77 {
					t.Errorf("%s: its spare room: %v", call, l)
				}
			}
		}
	}
	draft.May(d)
	draft.Atoms(d)
	draft.Len(d)
	draft.Same(d, d)
	draft.Fits(d, 2, 2)
	check("what is asked")
	draft.Dec(d)
	check("Dec")
	draft.Of(true, put...)
	draft.Of(true, put[:1]...)
	check("Of")
	for i := range 6 {
		for j := range 6 {
			draft.Splice(d, i, j, put...)
			draft.Splice(d, i, j)
		}
	}
	check("Splice")
	for least := range 6 {
		draft.From(x, least, least)
	}
	check("From")
}

// R4: what is answered is new memory: neither an argument's nor another list's of the answer.
func TestNewMemory(t *testing.T) {
	d := made("-12.50")
	spoil(draft.Atoms(d))
	spoil(draft.Atoms(draft.Draft{Int: d.Int}))
	spoil(draft.Dec(d).L)
	spoil(draft.Dec(draft.Draft{Int: d.Int}).L)
	for i := range 6 {
		for j := range 6 {
			put := []int{3, 4}
			got, _ := draft.Splice(d, i, j, put...)
			spoil(got.Int)
			spoil(got.Frac)
			if !slices.Equal(put, []int{3, 4}) {
				t.Error(i, j, put)
			}
		}
	}
	if s := draft.Text(d); s != "-12.50" {
		t.Error(s)
	}
	for _, text := range []string{"12.50", "12", "12.", ".50", "."} {
		l := atoms(text)
		got, _ := draft.Of(false, l...)
		spoil(got.Int)
		if !slices.Equal(got.Frac, made(text).Frac) {
			t.Error(text, got)
		}
		spoil(got.Frac)
		if !slices.Equal(l, atoms(text)) {
			t.Error(text, l)
		}
	}
	for _, x := range []decimal.Dec{dec(true, "1250", 2), dec(false, "125", 2), dec(false, "12", 0), dec(false, "12", 2), dec(false, "0012", 2)} {
		want := slices.Clone(x.L)
		for least := range 6 {
			got, _ := draft.From(x, least, least)
			behind := slices.Clone(got.Frac)
			spoil(got.Int)
			if !slices.Equal(got.Frac, behind) {
				t.Error(x, least, got)
			}
			spoil(got.Frac)
			if !slices.Equal(x.L, want) {
				t.Error(x, least)
			}
		}
	}
}

// R5: an answer is the same asked again, whatever was answered ahead, and whatever room lists have.
func TestAgain(t *testing.T) {
	whole, _ := roomy("12")
	d := draft.Draft{Int: whole, Sep: true}
	first, _ := draft.Splice(d, 1, 2, 7, 8)
	spoil(first.Int)
	again, err := draft.Splice(made("12."), 1, 2, 7, 8)
	same(t, again, err, made("178."), 0)
	zero, _ := draft.From(decimal.Dec{}, 0, 0)
	spoil(zero.Int)
	zero, err = draft.From(decimal.Dec{}, 0, 0)
	same(t, zero, err, made("0"), 0)
}

// R1: what may not be makes no call panic.
func TestOfWhatMayNotBe(t *testing.T) {
	for _, d := range wrong() {
		draft.Atoms(d)
		draft.Len(d)
		draft.Fits(d, 1, 1)
		draft.Dec(d)
		draft.Text(d)
	}
}

// R1: long drafts are told soon.
func TestLong(t *testing.T) {
	const n = 1 << 20
	l := make([]int, n)
	for i := range l {
		l[i] = i % 10
	}
	l[n/2] = 10
	d, err := draft.Of(true, l...)
	if err != api.OK || len(d.Int) != n/2 || len(d.Frac) != n/2-1 || !draft.May(d) || draft.Len(d) != n || !slices.Equal(draft.Atoms(d), l) {
		t.Fatal(err, len(d.Int), len(d.Frac))
	}
	if s := draft.Text(d); len(s) != n+1 {
		t.Error(len(s))
	}
	short, err := draft.Splice(d, 10, n-10, 1, 2)
	if err != api.OK || draft.Text(short) != "-012345678912"+draft.Text(d)[n-9:] {
		t.Error(err, draft.Text(short))
	}
	whole, err := draft.Of(false, l[n/2+1:]...)
	if err != api.OK || len(draft.Dec(whole).L) == 0 {
		t.Error(err)
	}
	if x := draft.Dec(draft.Draft{Sep: true, Frac: make([]int, n)}); len(x.L) != 0 || x.Scale != 0 {
		t.Error(x.Scale)
	}
}
