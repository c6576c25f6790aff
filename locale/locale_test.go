package locale_test

import (
	"errors"
	"slices"
	"strconv"
	"strings"
	"sync"
	"testing"
	"unicode/utf8"

	"abacist/api"
	"abacist/class"
	"abacist/fault"
	"abacist/locale"
	"abacist/pattern"
	"abacist/system"
)

// The places, and literals, of which affixes are made.
var (
	cur  = pattern.Piece{Kind: pattern.Currency}
	per  = pattern.Piece{Kind: pattern.Percent}
	dash = pattern.Piece{Kind: pattern.Minus}
)

func lit(s string) pattern.Piece { return pattern.Piece{Kind: pattern.Literal, Text: s} }

func list(l ...pattern.Piece) []pattern.Piece { return l }

// The parts of which answers are made.
var sign = locale.Part{Sign: true}

func text(s string) locale.Part { return locale.Part{Text: s} }

func parts(l ...locale.Part) []locale.Part { return l }

// form is a pattern's text, and what stands in it.
type form struct {
	text    string
	err     api.Errno
	sizes   [2]int
	least   [3]int
	affixes [4][]pattern.Piece // ahead, behind; ahead and behind of one below 0
}

// good is a record that may be; change answers it with other texts.
func good() locale.Record {
	return locale.Record{Name: "en", Pattern: "#,##0.00", System: "latn", Decimal: ".", Group: ",", Minus: "-", Percent: "%", Currency: "$"}
}

func change(with func(r *locale.Record)) locale.Record {
	r := good()
	with(&r)
	return r
}

// made is the locale of a record that may be.
func made(t *testing.T, r locale.Record) *locale.Locale {
	t.Helper()
	l, err := locale.New(r)
	if err != nil || l == nil {
		t.Fatalf("%+v: %v, %v", r, l, err)
	}
	return l
}

// The model: the chapter's words, on texts that are taken apart by other means.

// wordly tells whether a text is a word, and whether it is a symbol.
func wordly(s string) (word, symbol bool) {
	if len(s) < 1 || len(s) > 16 || !utf8.ValidString(s) || !plainly(s) {
		return false, false
	}
	return true, len(clusters(s)) == 1
}

// plainly tells whether a text's characters are plain.
func plainly(s string) bool {
	for at, r := range s {
		k := class.Of(int(r))
		if k != class.Other && (at == 0 || k != class.Extend) {
			return false
		}
	}
	return s != ""
}

// clusters is those of plain characters: a new one begins with each that does not extend.
func clusters(s string) []string {
	var all []string
	for _, r := range s {
		if class.Of(int(r)) == class.Extend {
			all[len(all)-1] += string(r)
		} else {
			all = append(all, string(r))
		}
	}
	return all
}

// affixText is an affix's text.
func affixText(affix []pattern.Piece, r locale.Record) string {
	s := ""
	for _, one := range affix {
		s += map[int]string{pattern.Literal: one.Text, pattern.Currency: r.Currency, pattern.Percent: r.Percent}[one.Kind]
	}
	return s
}

// has tells how many pieces of a kind affixes have.
func has(kind int, affixes ...[]pattern.Piece) int {
	n := 0
	for _, affix := range affixes {
		for _, one := range affix {
			if one.Kind == kind {
				n++
			}
		}
	}
	return n
}

// digits is a system's digits.
func digits(name string) []string {
	var l []string
	for d := range 10 {
		one, err := system.Digit(name, d)
		if err != api.OK {
			return nil
		}
		l = append(l, one)
	}
	return l
}

// name tells whether a text may be a name.
func name(s string) bool {
	return s != "" && len(s) <= 16 && strings.Trim(s, "abcdefghijklmnopqrstuvwxyzABCDEFGHIJKLMNOPQRSTUVWXYZ0123456789-_") == ""
}

// wrong is the first row of the chapter's table that holds: where and the error; none and OK of a record that may be.
func wrong(r locale.Record, f form) (string, api.Errno) {
	groups := f.sizes[0] > 0
	symbol := func(s string) bool { _, is := wordly(s); return is }
	word := func(s string, kind int) bool {
		is, _ := wordly(s)
		return is || s == "" && has(kind, f.affixes[:]...) == 0
	}
	if !name(r.Name) {
		return "name", api.ErrForm
	}
	if f.err != api.OK {
		return "pattern", f.err
	}
	if has(pattern.Minus, f.affixes[:2]...) > 0 || has(pattern.Minus, f.affixes[2:]...) != 1 {
		return "pattern", api.ErrSign
	}
	if digits(r.System) == nil {
		return "system", api.ErrNone
	}
	if !symbol(r.Decimal) {
		return "decimal", api.ErrForm
	}
	if groups && !symbol(r.Group) || !groups && r.Group != "" {
		return "group", api.ErrForm
	}
	if !symbol(r.Minus) {
		return "minus", api.ErrForm
	}
	if !word(r.Percent, pattern.Percent) {
		return "percent", api.ErrForm
	}
	if !word(r.Currency, pattern.Currency) {
		return "currency", api.ErrForm
	}
	return wrongAffix(r, f)
}

// wrongAffix is the first row that holds, of those behind the currency's.
func wrongAffix(r locale.Record, f form) (string, api.Errno) {
	for _, affix := range f.affixes {
		for _, one := range affix {
			if one.Kind == pattern.Literal && !plainly(one.Text) {
				return "affix", api.ErrForm
			}
		}
	}
	for _, affix := range f.affixes {
		if len(affixText(affix, r)) > 64 {
			return "affix", api.ErrRange
		}
	}
	taken := digits(r.System)
	for _, one := range []struct{ where, text string }{{"decimal", r.Decimal}, {"group", r.Group}, {"minus", r.Minus}} {
		if one.where == "group" && f.sizes[0] == 0 {
			continue
		}
		if slices.Contains(taken, one.text) {
			return one.where, api.ErrTwice
		}
		taken = append(taken, one.text)
	}
	for _, affix := range f.affixes {
		for _, one := range clusters(affixText(affix, r)) {
			if slices.Contains(taken, one) {
				return "affix", api.ErrTwice
			}
		}
	}
	return "", api.OK
}

// side is an affix's parts, piece by piece.
func side(affix []pattern.Piece, r locale.Record) []locale.Part {
	var all []locale.Part
	for _, one := range affix {
		s := affixText(list(one), r)
		switch {
		case one.Kind == pattern.Minus:
			all = append(all, sign)
		case s == "":
		case len(all) > 0 && !all[len(all)-1].Sign:
			all[len(all)-1].Text += s
		default:
			all = append(all, text(s))
		}
	}
	return all
}

// signOf is what a cluster is to a locale.
func signOf(r locale.Record, f form, one string) int {
	if d := slices.Index(digits(r.System), one); d >= 0 {
		return d
	}
	switch {
	case one == r.Decimal:
		return 10
	case one == r.Group && f.sizes[0] > 0:
		return 11
	case one == r.Minus:
		return 12
	}
	return -1
}

// refused tells whether an answer of New is none, with a fault that says where, and the error in it.
func refused(l *locale.Locale, err error, where string, code api.Errno) bool {
	var f *fault.Fault
	if l != nil || err == nil || !errors.As(err, &f) {
		return false
	}
	return f.Where == where && f.Err != nil && f.Err == error(code) &&
		slices.Equal(fault.Path(err), []string{where}) && fault.Code(err) == code &&
		err.Error() == where+": "+strconv.Itoa(int(code))
}

// check holds what New makes of a record against the model: whether it may be.
func check(t *testing.T, r locale.Record, f form) bool {
	t.Helper()
	r.Pattern = f.text
	l, err := locale.New(r)
	where, code := wrong(r, f)
	if code != api.OK {
		if !refused(l, err, where, code) {
			t.Fatalf("%+q: %v, %v, not %s, %d", r, l, err, where, code)
		}
		return false
	}
	if l == nil || err != nil {
		t.Fatalf("%+q: %v, %v", r, l, err)
	}
	checkNumbers(t, l, r, f)
	checkSigns(t, l, r, f)
	return true
}

// checkNumbers holds record, digits, sizes and parts against the model.
func checkNumbers(t *testing.T, l *locale.Locale, r locale.Record, f form) {
	t.Helper()
	if l.Record() != r {
		t.Fatalf("%+q: record %+q", r, l.Record())
	}
	for d, want := range digits(r.System) {
		if got := l.Digit(d); got != want {
			t.Fatalf("%+q: digit %d: %q", r, d, got)
		}
	}
	if a, b := l.Sizes(); [2]int{a, b} != f.sizes {
		t.Fatalf("%+q: sizes %d, %d", r, a, b)
	}
	if a, b, c := l.Least(); [3]int{a, b, c} != f.least {
		t.Fatalf("%+q: least %d, %d, %d", r, a, b, c)
	}
	for i, neg := range []bool{false, true} {
		a, b := l.Around(neg)
		if !slices.Equal(a, side(f.affixes[2*i], r)) || !slices.Equal(b, side(f.affixes[2*i+1], r)) {
			t.Fatalf("%+q: around, %v: %v, %v", r, neg, a, b)
		}
	}
}

// checkSigns asks what clusters are: of the record, of all digits, and others. No symbol is another one, no affix has one.
func checkSigns(t *testing.T, l *locale.Locale, r locale.Record, f form) {
	t.Helper()
	asked := []string{"", "0", "5", "9", "\u0660", "\u0665", "\u0669", "12", "00", "1\u0301", ".", ",", "-", "a", "\u00a4", "\xff", r.Decimal, r.Group, r.Minus, r.Percent, r.Currency, r.Decimal + r.Group, r.Minus + "\u0301"}
	affixes := map[string]bool{}
	for _, affix := range f.affixes {
		s := affixText(affix, r)
		for _, one := range clusters(s) {
			affixes[one] = true
			asked = append(asked, one)
		}
		asked = append(asked, s)
	}
	found := map[int]string{}
	for _, one := range append(asked, digits(r.System)...) {
		n := l.Sign(one)
		if n != signOf(r, f, one) || l.Affix(one) != affixes[one] {
			t.Fatalf("%+q: %q: %d, %v", r, one, n, l.Affix(one))
		}
		if n >= 0 && l.Affix(one) {
			t.Fatalf("%+q: %q is a symbol, and an affix's", r, one)
		}
		if was, is := found[n]; n >= 0 && is && was != one {
			t.Fatalf("%+q: %q and %q are %d", r, was, one, n)
		}
		found[n] = one
	}
	for _, one := range found {
		delete(found, l.Sign(one))
	}
	if len(found) > 0 {
		t.Fatalf("%+q: twice: %v", r, found)
	}
}

// P11.1: the chapter's example, and what it leaves to the words.
func TestExample(t *testing.T) {
	l := made(t, locale.Record{Name: "en", Pattern: "#,##0.00", System: "latn", Decimal: ".", Group: ",", Minus: "-"})
	if a, b := l.Sizes(); a != 3 || b != 3 {
		t.Errorf("%d, %d", a, b)
	}
	if a, b, c := l.Least(); a != 1 || b != 2 || c != 2 {
		t.Errorf("%d, %d, %d", a, b, c)
	}
	if a, b := l.Around(true); !slices.Equal(a, parts(sign)) || len(b) != 0 {
		t.Errorf("%v, %v", a, b)
	}
	if a, b := l.Around(false); len(a) != 0 || len(b) != 0 {
		t.Errorf("%v, %v", a, b)
	}
}

// ordinary is records as places write numbers, and what they tell.
var ordinary = []struct {
	record                                 locale.Record
	sizes                                  [2]int
	least                                  [3]int
	ahead, behind, belowAhead, belowBehind []locale.Part
}{
	{locale.Record{Name: "en-US", Pattern: "\u00a4#,##0.00", System: "latn", Decimal: ".", Group: ",", Minus: "-", Percent: "%", Currency: "$"},
		[2]int{3, 3}, [3]int{1, 2, 2}, parts(text("$")), nil, parts(sign, text("$")), nil},
	{locale.Record{Name: "de-DE", Pattern: "#,##0.00\u00a0\u00a4", System: "latn", Decimal: ",", Group: ".", Minus: "-", Percent: "%", Currency: "\u20ac"},
		[2]int{3, 3}, [3]int{1, 2, 2}, nil, parts(text("\u00a0\u20ac")), parts(sign), parts(text("\u00a0\u20ac"))},
	{locale.Record{Name: "de-CH", Pattern: "\u00a4\u00a0#,##0.00;\u00a4-#,##0.00", System: "latn", Decimal: ".", Group: "\u2019", Minus: "-", Percent: "%", Currency: "CHF"},
		[2]int{3, 3}, [3]int{1, 2, 2}, parts(text("CHF\u00a0")), nil, parts(text("CHF"), sign), nil},
	{locale.Record{Name: "nb-NO", Pattern: "\u00a4\u00a0#,##0.00;\u00a4\u00a0-#,##0.00", System: "latn", Decimal: ",", Group: "\u202f", Minus: "\u2212", Percent: "%", Currency: "kr"},
		[2]int{3, 3}, [3]int{1, 2, 2}, parts(text("kr\u00a0")), nil, parts(text("kr\u00a0"), sign), nil},
	{locale.Record{Name: "en-IN", Pattern: "\u00a4#,##,##0.00", System: "latn", Decimal: ".", Group: ",", Minus: "-", Percent: "%", Currency: "\u20b9"},
		[2]int{3, 2}, [3]int{1, 2, 2}, parts(text("\u20b9")), nil, parts(sign, text("\u20b9")), nil},
	{locale.Record{Name: "bg-BG", Pattern: "0.00\u00a0\u00a4", System: "latn", Decimal: ",", Group: "", Minus: "-", Percent: "%", Currency: "BGN"},
		[2]int{0, 0}, [3]int{1, 2, 2}, nil, parts(text("\u00a0BGN")), parts(sign), parts(text("\u00a0BGN"))},
	{locale.Record{Name: "sl-SI", Pattern: "#,##0.##%", System: "latn", Decimal: ",", Group: ".", Minus: "\u2212", Percent: "%", Currency: ""},
		[2]int{3, 3}, [3]int{1, 0, 2}, nil, parts(text("%")), parts(sign), parts(text("%"))},
	{locale.Record{Name: "fa-IR", Pattern: "#,##0.00", System: "arabext", Decimal: "\u066b", Group: "\u066c", Minus: "\u2212", Percent: "\u066a", Currency: ""},
		[2]int{3, 3}, [3]int{1, 2, 2}, nil, nil, parts(sign), nil},
	{locale.Record{Name: "ar-EG", Pattern: "\u00a4#,##0.00", System: "arab", Decimal: "\u066b", Group: "\u066c", Minus: "-", Percent: "\u066a", Currency: "EGP"},
		[2]int{3, 3}, [3]int{1, 2, 2}, parts(text("EGP")), nil, parts(sign, text("EGP")), nil},
	{locale.Record{Name: "books", Pattern: "\u00a4 0000.0;(\u00a4 #-)", System: "fullwide", Decimal: "\u00b7", Minus: "m\u0301", Currency: "p\u0308fd"},
		[2]int{0, 0}, [3]int{4, 1, 1}, parts(text("p\u0308fd ")), nil, parts(text("(p\u0308fd ")), parts(sign, text(")"))},
	{locale.Record{Name: "around", Pattern: "#,#%a\u00a4;a\u00a4-%b#\u00a4''", System: "latn", Decimal: ".", Group: ",", Minus: "-", Percent: "pc", Currency: "c"},
		[2]int{1, 1}, [3]int{0, 0, 0}, nil, parts(text("pcac")), parts(text("ac"), sign, text("pcb")), parts(text("c'"))},
	{locale.Record{Name: "last", Pattern: "a0;a0b-", System: "latn", Decimal: ".", Minus: "-"},
		[2]int{0, 0}, [3]int{1, 0, 0}, parts(text("a")), nil, parts(text("a")), parts(text("b"), sign)},
}

// P11.1, P11.2: what ordinary records tell, written out.
func TestOrdinary(t *testing.T) {
	for _, x := range ordinary {
		l := made(t, x.record)
		if l.Record() != x.record {
			t.Errorf("%s: %+q", x.record.Name, l.Record())
		}
		if a, b := l.Sizes(); [2]int{a, b} != x.sizes {
			t.Errorf("%s: sizes %d, %d", x.record.Name, a, b)
		}
		if a, b, c := l.Least(); [3]int{a, b, c} != x.least {
			t.Errorf("%s: least %d, %d, %d", x.record.Name, a, b, c)
		}
		if a, b := l.Around(false); !slices.Equal(a, x.ahead) || !slices.Equal(b, x.behind) {
			t.Errorf("%s: %v, %v", x.record.Name, a, b)
		}
		if a, b := l.Around(true); !slices.Equal(a, x.belowAhead) || !slices.Equal(b, x.belowBehind) {
			t.Errorf("%s: %v, %v", x.record.Name, a, b)
		}
	}
}

// P11.1: each system's digits, and numbers that are no digit.
func TestDigit(t *testing.T) {
	for _, name := range system.Names() {
		l := made(t, change(func(r *locale.Record) { r.System = name }))
		for d, want := range digits(name) {
			if got := l.Digit(d); got != want || l.Sign(got) != d {
				t.Errorf("%s, %d: %q, %d", name, d, got, l.Sign(got))
			}
		}
		for _, d := range []int{-1 << 63, -10, -1, 10, 11, 12, 13, 48, 1 << 32, 1<<63 - 1} {
			if got := l.Digit(d); got != "" {
				t.Errorf("%s, %d: %q", name, d, got)
			}
		}
	}
	l := made(t, change(func(r *locale.Record) { r.System = "arab" }))
	for d, want := range []string{"\u0660", "\u0661", "\u0662", "\u0663", "\u0664", "\u0665", "\u0666", "\u0667", "\u0668", "\u0669"} {
		if got := l.Digit(d); got != want {
			t.Errorf("%d: %q", d, got)
		}
	}
}

// P11.2: what clusters are, written out.
func TestSignAndAffix(t *testing.T) {
	byName := map[string]*locale.Locale{}
	for _, x := range ordinary {
		byName[x.record.Name] = made(t, x.record)
	}
	for _, x := range []struct {
		name, one string
		sign      int
		affix     bool
	}{
		{"en-US", "0", 0, false}, {"en-US", "9", 9, false}, {"en-US", ".", 10, false}, {"en-US", ",", 11, false}, {"en-US", "-", 12, false},
		{"en-US", "$", -1, true}, {"en-US", "%", -1, false}, {"en-US", "\u2212", -1, false}, {"en-US", "\u0660", -1, false},
		{"en-US", "", -1, false}, {"en-US", "00", -1, false}, {"en-US", "-$", -1, false}, {"en-US", "1\u0301", -1, false}, {"en-US", "\xff", -1, false},
		{"de-DE", ".", 11, false}, {"de-DE", ",", 10, false}, {"de-DE", "\u00a0", -1, true}, {"de-DE", "\u20ac", -1, true}, {"de-DE", "\u00a0\u20ac", -1, false},
		{"bg-BG", "", -1, false}, {"bg-BG", ",", 10, false}, {"bg-BG", ".", -1, false}, {"bg-BG", "B", -1, true}, {"bg-BG", "BGN", -1, false}, {"bg-BG", "-", 12, false},
		{"de-CH", "\u2019", 11, false}, {"de-CH", "\u00a0", -1, true}, {"de-CH", "H", -1, true},
		{"ar-EG", "\u0661", 1, false}, {"ar-EG", "1", -1, false}, {"ar-EG", "\u066b", 10, false}, {"ar-EG", "\u066c", 11, false}, {"ar-EG", "\u066a", -1, false},
		{"fa-IR", "\u06f9", 9, false}, {"fa-IR", "\u0669", -1, false}, {"fa-IR", "\u2212", 12, false}, {"fa-IR", "-", -1, false},
		{"books", "m\u0301", 12, false}, {"books", "m", -1, false}, {"books", "p\u0308", -1, true}, {"books", "p", -1, false}, {"books", "f", -1, true},
		{"books", "(", -1, true}, {"books", ")", -1, true}, {"books", " ", -1, true}, {"books", "\uff11", 1, false}, {"books", "", -1, false},
		{"around", "b", -1, true}, {"around", "'", -1, true}, {"around", "p", -1, true}, {"around", "%", -1, false}, {"around", "pc", -1, false},
		{"last", "b", -1, true}, {"last", ",", -1, false},
	} {
		l := byName[x.name]
		if n, is := l.Sign(x.one), l.Affix(x.one); n != x.sign || is != x.affix {
			t.Errorf("%s, %q: %d, %v", x.name, x.one, n, is)
		}
	}
}

// P11.1: words and symbols, written out.
func TestWordWritten(t *testing.T) {
	for _, x := range []struct {
		s            string
		word, symbol bool
	}{
		{"", false, false}, {"a", true, true}, {"ab", true, false}, {"$", true, true}, {"kr.", true, false}, {" ", true, true}, {"\u00a0", true, true},
		{"\u202f", true, true}, {"\u20ac", true, true}, {"\u2212", true, true}, {"0", true, true}, {"12", true, false}, {"\u066b", true, true},
		{"e\u0301", true, true}, {"e\u0301\u0302", true, true}, {"e\u0301x", true, false}, {"xe\u0301", true, false}, {"\u0301", false, false}, {"\u0301e", false, false},
		{"e\u200c", true, true}, {"e\u200d", false, false}, {"\u200d", false, false}, {"e\u0903", false, false}, {"\u0903", false, false},
		{"\n", false, false}, {"a\n", false, false}, {"\x00", false, false}, {"\t", false, false}, {"\r\n", false, false}, {"\u00ad", false, false}, {"\u200e", false, false}, {"a\u200f", false, false},
		{"\u0600", false, false}, {"\u06001", false, false}, {"\u1100", false, false}, {"\uac00", false, false}, {"a\uac01", false, false},
		{"\u00a9", false, false}, {"\u2122", false, false}, {"\U0001f4b0", false, false}, {"\U0001f1e9\U0001f1ea", false, false},
		{"\xff", false, false}, {"a\xff", false, false}, {"\xe2\x82", false, false}, {"\xc2", false, false}, {"\x80a", false, false}, {"\xed\xa0\x80", false, false},
		{"\ufffd", true, true}, {"a\ufffd", true, false}, {"\U0010ffff", true, true}, {"\uffff", true, true},
		{strings.Repeat("a", 16), true, false}, {strings.Repeat("a", 17), false, false}, {strings.Repeat("a", 1<<20), false, false},
		{strings.Repeat("\u00e9", 8), true, false}, {strings.Repeat("\u00e9", 8) + "a", false, false},
		{strings.Repeat("\u20ac", 5) + "a", true, false}, {strings.Repeat("\u20ac", 5) + "ab", false, false}, {strings.Repeat("\u20ac", 6), false, false},
		{strings.Repeat("\U00010000", 4), true, false}, {strings.Repeat("\U00010000", 4) + "a", false, false},
		{"a" + strings.Repeat("\u0301", 7), true, true}, {"\u00e9" + strings.Repeat("\u0301", 7), true, true}, {"\u20ac" + strings.Repeat("\u0301", 7), false, false},
		{"aa" + strings.Repeat("\u0301", 7), true, false}, {"a" + strings.Repeat("\u0301", 8), false, false},
	} {
		if w, s := locale.Word(x.s), locale.Symbol(x.s); w != x.word || s != x.symbol {
			t.Errorf("%q: %v, %v", x.s, w, s)
		}
		if w, s := wordly(x.s); w != x.word || s != x.symbol {
			t.Errorf("the model, %q: %v, %v", x.s, w, s)
		}
	}
}

// P11.1: every text of up to four of the classes' characters, and spoilt bytes.
func TestWordEach(t *testing.T) {
	pieces := []string{"a", "5", "\u20ac", "\u00a0", "\ufffd", "\u0301", "\u200c", "\u200d", "\u0903", "\r", "\n", "\x00", "\u0600", "\u1100", "\uac00", "\U0001f1e6", "\u00a9", "\xff", "\xc2", "\x80"}
	texts := []string{""}
	for begin := 0; len(texts) < 1+20+400+8000+160000; begin++ {
		for _, one := range pieces {
			texts = append(texts, texts[begin]+one)
		}
	}
	for _, s := range texts {
		word, symbol := wordly(s)
		if w, one := locale.Word(s), locale.Symbol(s); w != word || one != symbol {
			t.Fatalf("%q: %v, %v", s, w, one)
		}
	}
}

// P11.1: names that may be, and others.
func TestName(t *testing.T) {
	named := func(s string) (*locale.Locale, error) {
		return locale.New(change(func(r *locale.Record) { r.Name = s }))
	}
	for _, s := range []string{"a", "z", "A", "Z", "0", "9", "-", "_", "en-US", "x_1", "abcdefghijklmnop", "----------------", "ABCDEFGHIJ-_1234"} {
		if l, err := named(s); l == nil || err != nil || l.Record().Name != s {
			t.Errorf("%q: %v, %v", s, l, err)
		}
	}
	for _, s := range []string{"abcdefghijklmnopq", strings.Repeat("a", 100), "e n", " en", "en ", "en.", "en\x00", "\u00e9", "e\u0301", "en\u2010US", "\uff10", "\u0661", "e\xff", "\u212a", "a/b", "a+b"} {
		if l, err := named(s); !refused(l, err, "name", api.ErrForm) {
			t.Errorf("%q: %v, %v", s, l, err)
		}
	}
	if l, err := named(""); !refused(l, err, "name", api.ErrForm) {
		t.Error(l, err)
	}
	for c := range 256 {
		s := string([]byte{byte(c)})
		l, err := named(s)
		if name(s) != (err == nil) || err != nil && !refused(l, err, "name", api.ErrForm) {
			t.Errorf("%q: %v, %v", s, l, err)
		}
		l, err = named("a" + s + "a")
		if name(s) != (err == nil) || err != nil && !refused(l, err, "name", api.ErrForm) {
			t.Errorf("%q: %v, %v", s, l, err)
		}
	}
}

// faults is a change for each row of the chapter's table, in their row: one that makes the record such that no row ahead of it holds.
var faults = []struct {
	where string
	err   api.Errno
	with  func(r *locale.Record)
}{
	{"name", api.ErrForm, func(r *locale.Record) { *r = locale.Record{} }},
	{"name", api.ErrForm, func(r *locale.Record) { r.Name = "e.n" }},
	{"pattern", api.ErrForm, func(r *locale.Record) { r.Pattern = "" }},
	{"pattern", api.ErrForm, func(r *locale.Record) { r.Pattern = "#,##0.00;" }},
	{"pattern", api.ErrForm, func(r *locale.Record) { r.Pattern = "#,##0.00'" }},
	{"pattern", api.ErrRange, func(r *locale.Record) { r.Pattern = "#," + strings.Repeat("0", 64) }},
	{"pattern", api.ErrRange, func(r *locale.Record) { r.Pattern = "0;0." + strings.Repeat("#", 65) }},
	{"pattern", api.ErrSign, func(r *locale.Record) { r.Pattern = "-#,##0.00" }},
	{"pattern", api.ErrSign, func(r *locale.Record) { r.Pattern = "#,##0.00-" }},
	{"pattern", api.ErrSign, func(r *locale.Record) { r.Pattern = "-#,##0.00;-#" }},
	{"pattern", api.ErrSign, func(r *locale.Record) { r.Pattern = "#,##0.00-;-#" }},
	{"pattern", api.ErrSign, func(r *locale.Record) { r.Pattern = "#,##0.00;#" }},
	{"pattern", api.ErrSign, func(r *locale.Record) { r.Pattern = "#,##0.00;(#)" }},
	{"pattern", api.ErrSign, func(r *locale.Record) { r.Pattern = "#,##0.00;'-'#" }},
	{"pattern", api.ErrSign, func(r *locale.Record) { r.Pattern = "#,##0.00;--#" }},
	{"pattern", api.ErrSign, func(r *locale.Record) { r.Pattern = "#,##0.00;#--" }},
	{"pattern", api.ErrSign, func(r *locale.Record) { r.Pattern = "#,##0.00;-#-" }},
	{"system", api.ErrNone, func(r *locale.Record) { r.System = "" }},
	{"system", api.ErrNone, func(r *locale.Record) { r.System = "Latn" }},
	{"decimal", api.ErrForm, func(r *locale.Record) { r.Decimal = "" }},
	{"decimal", api.ErrForm, func(r *locale.Record) { r.Decimal = ".." }},
	{"decimal", api.ErrForm, func(r *locale.Record) { r.Decimal = "\u0301" }},
	{"decimal", api.ErrForm, func(r *locale.Record) { r.Decimal = "\xff" }},
	{"decimal", api.ErrForm, func(r *locale.Record) { r.Decimal = "a" + strings.Repeat("\u0301", 8) }},
	{"group", api.ErrForm, func(r *locale.Record) { r.Group = "" }},
	{"group", api.ErrForm, func(r *locale.Record) { r.Group = "ab" }},
	{"group", api.ErrForm, func(r *locale.Record) { r.Group = "\n" }},
	{"group", api.ErrForm, func(r *locale.Record) { r.Pattern = "0.00" }},
	{"group", api.ErrForm, func(r *locale.Record) { r.Pattern = "0;-#,##0" }},
	{"group", api.ErrForm, func(r *locale.Record) { r.Pattern, r.Group = "0", "\xff" }},
	{"minus", api.ErrForm, func(r *locale.Record) { r.Minus = "" }},
	{"minus", api.ErrForm, func(r *locale.Record) { r.Minus = "--" }},
	{"minus", api.ErrForm, func(r *locale.Record) { r.Minus = "\u200f-" }},
	{"percent", api.ErrForm, func(r *locale.Record) { r.Percent = "\x00" }},
	{"percent", api.ErrForm, func(r *locale.Record) { r.Percent = "12345678901234567" }},
	{"percent", api.ErrForm, func(r *locale.Record) { r.Percent, r.Pattern = "", "%#,##0.00" }},
	{"percent", api.ErrForm, func(r *locale.Record) { r.Percent, r.Pattern = "", "#,##0.00%" }},
	{"percent", api.ErrForm, func(r *locale.Record) { r.Percent, r.Pattern = "", "#,##0.00;-%#" }},
	{"percent", api.ErrForm, func(r *locale.Record) { r.Percent, r.Pattern = "", "#,##0.00;-#%" }},
	{"percent", api.ErrForm, func(r *locale.Record) { r.Percent, r.Pattern = "", "%#,##0.00;-#" }},
	{"percent", api.ErrForm, func(r *locale.Record) { r.Percent, r.Pattern = "", "#,##0.00%;-#" }},
	{"currency", api.ErrForm, func(r *locale.Record) { r.Currency = "E\xff" }},
	{"currency", api.ErrForm, func(r *locale.Record) { r.Currency = "\u00a9" }},
	{"currency", api.ErrForm, func(r *locale.Record) { r.Currency, r.Pattern = "", "\u00a4#,##0.00" }},
	{"currency", api.ErrForm, func(r *locale.Record) { r.Currency, r.Pattern = "", "#,##0.00\u00a4" }},
	{"currency", api.ErrForm, func(r *locale.Record) { r.Currency, r.Pattern = "", "#,##0.00;-\u00a4#" }},
	{"currency", api.ErrForm, func(r *locale.Record) { r.Currency, r.Pattern = "", "#,##0.00;-#\u00a4" }},
	{"currency", api.ErrForm, func(r *locale.Record) { r.Currency, r.Pattern = "", "\u00a4#,##0.00;-#" }},
	{"currency", api.ErrForm, func(r *locale.Record) { r.Currency, r.Pattern = "", "#,##0.00\u00a4;-#" }},
	{"affix", api.ErrForm, func(r *locale.Record) { r.Pattern = "\u0301#,##0.00" }},
	{"affix", api.ErrForm, func(r *locale.Record) { r.Pattern = "#,##0.00a\u200d" }},
	{"affix", api.ErrForm, func(r *locale.Record) { r.Pattern = "#,##0.00;\n-#" }},
	{"affix", api.ErrForm, func(r *locale.Record) { r.Pattern = "#,##0.00;-#\uac00" }},
	{"affix", api.ErrForm, func(r *locale.Record) { r.Pattern = "#,##0.00\u00a4\u0301" }},
	{"affix", api.ErrForm, func(r *locale.Record) { r.Pattern = "#,##0.00;a-\u0301#" }},
	{"affix", api.ErrForm, func(r *locale.Record) { r.Pattern = "\x00#,##0.00;-#" }},
	{"affix", api.ErrForm, func(r *locale.Record) { r.Pattern = "#,##0.00\x00;-#" }},
	{"affix", api.ErrRange, func(r *locale.Record) { r.Pattern = strings.Repeat("a", 65) + "#,##0.00" }},
	{"affix", api.ErrRange, func(r *locale.Record) { r.Pattern = "#,##0.00" + strings.Repeat("\u00a4", 65) }},
	{"affix", api.ErrRange, func(r *locale.Record) { r.Pattern = "#,##0.00;-" + strings.Repeat("%", 65) + "#" }},
	{"affix", api.ErrRange, func(r *locale.Record) { r.Pattern = "#,##0.00;-#" + strings.Repeat("'", 130) }},
	{"affix", api.ErrRange, func(r *locale.Record) { r.Pattern = strings.Repeat("a", 65) + "#,##0.00;-#" }},
	{"affix", api.ErrRange, func(r *locale.Record) { r.Pattern = "#,##0.00" + strings.Repeat("a", 65) + ";-#" }},
	{"decimal", api.ErrTwice, func(r *locale.Record) { r.Decimal = "0" }},
	{"decimal", api.ErrTwice, func(r *locale.Record) { r.Decimal = "9" }},
	{"decimal", api.ErrTwice, func(r *locale.Record) { r.System, r.Decimal = "thai", "\u0e55" }},
	{"group", api.ErrTwice, func(r *locale.Record) { r.Group = "7" }},
	{"group", api.ErrTwice, func(r *locale.Record) { r.Group = "." }},
	{"minus", api.ErrTwice, func(r *locale.Record) { r.Minus = "1" }},
	{"minus", api.ErrTwice, func(r *locale.Record) { r.Minus = "." }},
	{"minus", api.ErrTwice, func(r *locale.Record) { r.Minus = "," }},
	{"affix", api.ErrTwice, func(r *locale.Record) { r.Pattern = "'8'#,##0.00" }},
	{"affix", api.ErrTwice, func(r *locale.Record) { r.Pattern = "#,##0.00a'.'" }},
	{"affix", api.ErrTwice, func(r *locale.Record) { r.Pattern = "#,##0.00;-','#" }},
	{"affix", api.ErrTwice, func(r *locale.Record) { r.Pattern = "#,##0.00;-#'-'" }},
	{"affix", api.ErrTwice, func(r *locale.Record) { r.Pattern = "'-'#,##0.00;-#" }},
	{"affix", api.ErrTwice, func(r *locale.Record) { r.Pattern = "#,##0.00'0';-#" }},
	{"affix", api.ErrTwice, func(r *locale.Record) { r.Pattern, r.Currency = "#,##0.00\u00a4", "kr." }},
	{"affix", api.ErrTwice, func(r *locale.Record) { r.Pattern, r.Percent = "#,##0.00;%-#", "p0c" }},
}

// P11.1: a record that is wrong in one thing.
func TestNewRefuses(t *testing.T) {
	for i, x := range faults {
		r := change(x.with)
		if l, err := locale.New(r); !refused(l, err, x.where, x.err) {
			t.Errorf("%d: %+q: %v, %v", i, r, l, err)
		}
	}
}

// P11.1: a record that is wrong in two things is refused for the one whose row goes ahead.
func TestNewOrder(t *testing.T) {
	// The rows of the table, in one text for each field that can be wrong beside all others.
	long := strings.Repeat("a", 65)
	rows := []struct {
		where string
		err   api.Errno
		with  func(r *locale.Record)
	}{
		{"name", api.ErrForm, func(r *locale.Record) { r.Name = "" }},
		{"pattern", api.ErrForm, func(r *locale.Record) { r.Pattern = "\u0301" + long + "'.'" }},
		{"pattern", api.ErrSign, func(r *locale.Record) { r.Pattern = "-#,#%\u00a4\u0301" + long + "'.'" }},
		{"system", api.ErrNone, func(r *locale.Record) { r.System = "none" }},
		{"decimal", api.ErrForm, func(r *locale.Record) { r.Decimal = "" }},
		{"group", api.ErrForm, func(r *locale.Record) { r.Group = "" }},
		{"minus", api.ErrForm, func(r *locale.Record) { r.Minus = "" }},
		{"percent", api.ErrForm, func(r *locale.Record) { r.Percent = "\xff" }},
		{"currency", api.ErrForm, func(r *locale.Record) { r.Currency = "\xff" }},
		{"affix", api.ErrForm, func(r *locale.Record) { r.Pattern = "#,#%\u00a4\u0301" + long + "'.'" }},
		{"affix", api.ErrRange, func(r *locale.Record) { r.Pattern = "#,#%\u00a4" + long + "'.'" }},
		{"decimal", api.ErrTwice, func(r *locale.Record) { r.Decimal = "1" }},
		{"group", api.ErrTwice, func(r *locale.Record) { r.Group = "1" }},
		{"minus", api.ErrTwice, func(r *locale.Record) { r.Minus = "1" }},
		{"affix", api.ErrTwice, func(r *locale.Record) { r.Pattern = "#,#%\u00a4'.'" }},
	}
	for i := range rows {
		for j := i; j < len(rows); j++ {
			for k := j; k < len(rows); k++ {
				// The first one is set last, where it is the same field.
				r := good()
				rows[k].with(&r)
				rows[j].with(&r)
				rows[i].with(&r)
				if l, err := locale.New(r); !refused(l, err, rows[i].where, rows[i].err) {
					t.Errorf("%d, %d, %d: %+q: %v, %v", i, j, k, r, l, err)
				}
			}
		}
	}
}

// P11.1: 64 bytes of an affix may be, 65 not: the minus counts nothing, each of the four counts alone.
func TestAffixBytes(t *testing.T) {
	full := strings.Repeat("a", 64)
	for _, with := range []func(r *locale.Record, more string){
		func(r *locale.Record, more string) { r.Pattern = full + more + "#,#" + full },
		func(r *locale.Record, more string) { r.Pattern = full + "#,#" + full + more },
		func(r *locale.Record, more string) { r.Pattern = full + "#,#" + full + ";" + full + more + "-#" + full },
		func(r *locale.Record, more string) { r.Pattern = full + "#,#" + full + ";" + full + "#-" + full + more },
		func(r *locale.Record, more string) { r.Pattern = strings.Repeat("\u20ac", 21) + "a" + more + "#,#" },
		func(r *locale.Record, more string) {
			r.Pattern, r.Currency = "#,#\u00a4\u00a4\u00a4\u00a4"+more, strings.Repeat("c", 16)
		},
		func(r *locale.Record, more string) {
			r.Pattern, r.Percent = "#,#;%%-%%"+more+"#", strings.Repeat("p", 16)
		},
		func(r *locale.Record, more string) {
			r.Pattern, r.Percent, r.Currency = "#,#a%b\u00a4cdefg"+more+full[:25], strings.Repeat("p", 16), strings.Repeat("c", 16)
		},
	} {
		r := change(func(r *locale.Record) { with(r, "") })
		if l, err := locale.New(r); l == nil || err != nil {
			t.Errorf("%+q: %v, %v", r, l, err)
		}
		r = change(func(r *locale.Record) { with(r, "b") })
		if l, err := locale.New(r); !refused(l, err, "affix", api.ErrRange) {
			t.Errorf("%+q: %v, %v", r, l, err)
		}
	}
}

// P11.1, R1: an affix's text is not built ahead of its words' looks: it would be too long for any memory.
func TestManyPlaces(t *testing.T) {
	places, long := strings.Repeat("\u00a4%", 1<<20), strings.Repeat("c", 1<<20)
	for _, x := range []struct {
		percent, currency, where string
		err                      api.Errno
	}{{long, long, "percent", api.ErrForm}, {"%", long, "currency", api.ErrForm}, {"%", "$", "affix", api.ErrRange}} {
		r := locale.Record{Name: "x", Pattern: places + "0" + places, System: "latn", Decimal: ".", Minus: "-", Percent: x.percent, Currency: x.currency}
		if l, err := locale.New(r); !refused(l, err, x.where, x.err) {
			t.Errorf("%v, %v", l, err)
		}
	}
}

// P11.1: what two symbols share does not make them one: only the same bytes do.
func TestNotTwice(t *testing.T) {
	for i, with := range []func(r *locale.Record){
		func(r *locale.Record) { r.Decimal = "1\u0301" },
		func(r *locale.Record) { r.Decimal = "\u0661" },
		func(r *locale.Record) { r.System, r.Decimal, r.Group, r.Minus = "arab", "0", "1", "2" },
		func(r *locale.Record) { r.Decimal, r.Group, r.Minus = "a", "a\u0301", "a\u0301\u0301" },
		func(r *locale.Record) { r.Decimal, r.Group, r.Minus = "\u00e9", "e\u0301", "e" },
		func(r *locale.Record) { r.Percent, r.Currency = ".", "-" },
		func(r *locale.Record) { r.Percent, r.Currency = "0", "1,5" },
		func(r *locale.Record) { r.Pattern, r.Currency = "\u00a4#,#", ".\u0301" },
		func(r *locale.Record) { r.Pattern = "'1'\u0301#,#" },
		func(r *locale.Record) { r.Pattern, r.Group = "0','", "" },
		func(r *locale.Record) { r.Pattern, r.Percent = "#,#%a%", "%" },
		func(r *locale.Record) { r.Percent, r.Currency = "", "" },
		func(r *locale.Record) { r.Pattern, r.Minus = "#,#'-'", "\u2212" },
	} {
		if l, err := locale.New(change(with)); l == nil || err != nil {
			t.Errorf("%d: %v, %v", i, l, err)
		}
	}
}

// forms is patterns, and what stands in them.
var forms = []form{
	{"#,##0.00", api.OK, [2]int{3, 3}, [3]int{1, 2, 2}, [4][]pattern.Piece{nil, nil, list(dash), nil}},
	{"0.0#", api.OK, [2]int{0, 0}, [3]int{1, 1, 2}, [4][]pattern.Piece{nil, nil, list(dash), nil}},
	{"\u00a4#,##,##0", api.OK, [2]int{3, 2}, [3]int{1, 0, 0}, [4][]pattern.Piece{list(cur), nil, list(dash, cur), nil}},
	{"0%", api.OK, [2]int{0, 0}, [3]int{1, 0, 0}, [4][]pattern.Piece{nil, list(per), list(dash), list(per)}},
	{"\u00a4a#,#%", api.OK, [2]int{1, 1}, [3]int{0, 0, 0}, [4][]pattern.Piece{list(cur, lit("a")), list(per), list(dash, cur, lit("a")), list(per)}},
	{"0;(0-)", api.OK, [2]int{0, 0}, [3]int{1, 0, 0}, [4][]pattern.Piece{nil, nil, list(lit("(")), list(dash, lit(")"))}},
	{"#,#;a\u00a4-b%#", api.OK, [2]int{1, 1}, [3]int{0, 0, 0}, [4][]pattern.Piece{nil, nil, list(lit("a"), cur, dash, lit("b"), per), nil}},
	{"0;0%\u00a4-", api.OK, [2]int{0, 0}, [3]int{1, 0, 0}, [4][]pattern.Piece{nil, nil, nil, list(per, cur, dash)}},
	{"a%#,##\u00a4b;-#", api.OK, [2]int{2, 2}, [3]int{0, 0, 0}, [4][]pattern.Piece{list(lit("a"), per), list(cur, lit("b")), list(dash), nil}},
	{"#,#'.'", api.OK, [2]int{1, 1}, [3]int{0, 0, 0}, [4][]pattern.Piece{nil, list(lit(".")), list(dash), list(lit("."))}},
	{"'0'#", api.OK, [2]int{0, 0}, [3]int{0, 0, 0}, [4][]pattern.Piece{list(lit("0")), nil, list(dash, lit("0")), nil}},
	{"#;','-#'-'", api.OK, [2]int{0, 0}, [3]int{0, 0, 0}, [4][]pattern.Piece{nil, nil, list(lit(","), dash), list(lit("-"))}},
	{"\u0301#,#", api.OK, [2]int{1, 1}, [3]int{0, 0, 0}, [4][]pattern.Piece{list(lit("\u0301")), nil, list(dash, lit("\u0301")), nil}},
	{"0\u00a4\u0301", api.OK, [2]int{0, 0}, [3]int{1, 0, 0}, [4][]pattern.Piece{nil, list(cur, lit("\u0301")), list(dash), list(cur, lit("\u0301"))}},
	{"0" + strings.Repeat("\u00a4", 33), api.OK, [2]int{0, 0}, [3]int{1, 0, 0}, [4][]pattern.Piece{nil, slices.Repeat(list(cur), 33), list(dash), slices.Repeat(list(cur), 33)}},
	{"-0", api.OK, [2]int{0, 0}, [3]int{1, 0, 0}, [4][]pattern.Piece{list(dash), nil, list(dash, dash), nil}},
	{"0-;-0", api.OK, [2]int{0, 0}, [3]int{1, 0, 0}, [4][]pattern.Piece{nil, list(dash), list(dash), nil}},
	{"#,#;#", api.OK, [2]int{1, 1}, [3]int{0, 0, 0}, [4][]pattern.Piece{}},
	{"0;-0-", api.OK, [2]int{0, 0}, [3]int{1, 0, 0}, [4][]pattern.Piece{nil, nil, list(dash), list(dash)}},
	{"0;", api.ErrForm, [2]int{}, [3]int{}, [4][]pattern.Piece{}},
	{"0." + strings.Repeat("0", 65), api.ErrRange, [2]int{}, [3]int{}, [4][]pattern.Piece{}},
}

// P11.1, P11.2, P11.3: every record of these texts, against the model.
func TestEachRecord(t *testing.T) {
	for _, f := range forms {
		t.Run(f.text, func(t *testing.T) {
			t.Parallel()
			may := 0
			eachRecord(func(r locale.Record) {
				if check(t, r, f) {
					may++
				}
			})
			_, code := wrong(locale.Record{Name: "x", System: "latn", Decimal: "\u00b7", Group: "g", Minus: "m", Percent: "p", Currency: "c"}, f)
			if may == 0 && code == api.OK {
				t.Error("none may be")
			}
		})
	}
}

// eachRecord tells records, right and wrong in each field, without a pattern.
func eachRecord(tell func(r locale.Record)) {
	for _, system := range []string{"latn", "arab", "none"} {
		for _, decimal := range []string{".", ",", "", "1", "\u0661"} {
			for _, group := range []string{"", ",", ".", "1\u0301", "ab", "\u0669"} {
				for _, minus := range []string{"-", "\u2212", ",", "", "0"} {
					for _, percent := range []string{"%", "", "pc", "5x", "\xff"} {
						for _, currency := range []string{"\u20ac", "", "kr.", "\u0660", "\n"} {
							tell(locale.Record{Name: "x", System: system, Decimal: decimal, Group: group, Minus: minus, Percent: percent, Currency: currency})
						}
					}
				}
			}
		}
	}
}

// eachAffix tells every affix of up to so many pieces: its pattern's text, and its pieces, literals side by side as one.
func eachAffix(most int, tell func(s string, affix []pattern.Piece)) {
	tokens := []struct {
		text  string
		piece pattern.Piece
	}{{"\u00a4", cur}, {"%", per}, {"-", dash}, {"a", lit("a")}, {"''", lit("'")}, {"\u0301", lit("\u0301")}, {"d", lit("d")}}
	var grow func(s string, affix []pattern.Piece, n int)
	grow = func(s string, affix []pattern.Piece, n int) {
		tell(s, affix)
		for _, x := range tokens {
			if n == 0 {
				return
			}
			next := slices.Clone(affix)
			if k := len(next); k > 0 && next[k-1].Kind == pattern.Literal && x.piece.Kind == pattern.Literal {
				next[k-1].Text += x.piece.Text
			} else {
				next = append(next, x.piece)
			}
			grow(s+x.text, next, n-1)
		}
	}
	grow("", nil, most)
}

// P11.1, P11.2, P11.3: every affix of up to four pieces, ahead and behind, of both halves.
func TestEachAffix(t *testing.T) {
	r := locale.Record{Name: "x", System: "latn", Decimal: "d", Minus: "-", Percent: "pc", Currency: "$"}
	f := form{sizes: [2]int{0, 0}, least: [3]int{1, 0, 0}}
	eachAffix(4, func(s string, affix []pattern.Piece) {
		f.text, f.affixes = s+"0", [4][]pattern.Piece{affix, nil, append(list(dash), affix...), nil}
		check(t, r, f)
		f.text, f.affixes = "0"+s, [4][]pattern.Piece{nil, affix, list(dash), affix}
		check(t, r, f)
		f.text, f.affixes = "0;"+s+"#", [4][]pattern.Piece{nil, nil, affix, nil}
		check(t, r, f)
		f.text, f.affixes = "0;a#"+s, [4][]pattern.Piece{nil, nil, list(lit("a")), affix}
		check(t, r, f)
	})
	eachAffix(2, func(a string, ahead []pattern.Piece) {
		eachAffix(2, func(b string, behind []pattern.Piece) {
			f.text, f.affixes = "%0;"+a+"0"+b, [4][]pattern.Piece{list(per), nil, ahead, behind}
			check(t, r, f)
			f.text, f.affixes = a+"0"+b+";-0", [4][]pattern.Piece{ahead, behind, list(dash), nil}
			check(t, r, f)
		})
	})
}

// P11.2, R4: what is answered is new memory each time, and a locale stays as it was made.
func TestNewMemory(t *testing.T) {
	for _, x := range ordinary {
		l := made(t, x.record)
		for range 2 {
			for _, neg := range []bool{false, true} {
				a, b := l.Around(neg)
				a, b = append(a, text("more")), append(b, text("more"))
				for i := range a {
					a[i] = text("spoilt")
				}
				for i := range b {
					if b[i] == text("spoilt") {
						t.Errorf("%s: both lists are one", x.record.Name)
					}
					b[i] = sign
				}
			}
		}
		if a, b := l.Around(false); !slices.Equal(a, x.ahead) || !slices.Equal(b, x.behind) {
			t.Errorf("%s: %v, %v", x.record.Name, a, b)
		}
		if a, b := l.Around(true); !slices.Equal(a, x.belowAhead) || !slices.Equal(b, x.belowBehind) {
			t.Errorf("%s: %v, %v", x.record.Name, a, b)
		}
		if l.Record() != x.record || l == made(t, x.record) {
			t.Errorf("%s: %+q", x.record.Name, l.Record())
		}
	}
}

// R4: a locale may be shared.
func TestShared(t *testing.T) {
	l := made(t, ordinary[2].record)
	var all sync.WaitGroup
	for range 4 {
		all.Add(1)
		go func() {
			defer all.Done()
			for range 100 {
				a, b := l.Around(true)
				if !slices.Equal(a, ordinary[2].belowAhead) || len(b) != 0 || l.Sign("\u2019") != 11 || !l.Affix("H") || l.Digit(7) != "7" {
					t.Errorf("%v, %v", a, b)
				}
			}
		}()
	}
	all.Wait()
}
