package strict_test

import (
	"slices"
	"strings"
	"testing"

	"abacist/api"
	"abacist/cluster"
	"abacist/decimal"
	"abacist/draft"
	"abacist/forty"
	"abacist/item"
	"abacist/locale"
	"abacist/strict"
	"abacist/system"
)

// record is a record of a pattern, with a group's symbol or without.
func record(pattern, group string) locale.Record {
	return locale.Record{Name: "x", Pattern: pattern, System: "latn", Decimal: ".", Group: group, Minus: "-", Percent: "%", Currency: "$"}
}

// dressed is a record with symbols of several bytes, and of several characters.
func dressed(pattern, system, group string) locale.Record {
	return locale.Record{Name: "x", Pattern: pattern, System: system, Decimal: "x\u0323", Group: group, Minus: "m\u0304\u0301", Percent: "\u066a", Currency: "R\u0301s"}
}

// once is a pattern whose second group ends 63 digits ahead of the separator: of fewer than 64 digits one group ends.
func once() string { return "#," + strings.Repeat("#", 61) + ",00" }

// records is records with affixes ahead and behind, with the sign ahead of them, among them and behind them, with groups and without.
func records() []locale.Record {
	long := strings.Repeat("\u20ac", 21)
	wide := dressed("\u00a4a#,#0.00b", "mathsanb", "g"+strings.Repeat("\u0301", 7))
	wide.Decimal, wide.Minus = "d"+strings.Repeat("\u0301", 7), "m"+strings.Repeat("\u0301", 7)
	// Symbols that begin as others do, and as the affixes.
	alike := record("\u00a4#,##0e;(\u00a4-#e)", "e\u0301")
	alike.Decimal, alike.Minus, alike.Currency = "e\u0323", "e\u0301\u0301", "ee"
	return []locale.Record{
		record("0", ""),
		record("0.00;0-", ""),
		record("#,##0.00", ","),
		record("\u00a4#,##0.00", ","),
		record("\u00a4 #,##,##0", ","),
		record("#,##0 \u00a4", "'"),
		record("<0>", ""),
		record("<0>;-0", ""),
		record("0;<-0>", ""),
		record("aaaa#,0bbbb;(0-)", ","),
		record("aa#,0a;a0-a", ","),
		record("#,#0;\u00a4-<0>", ","),
		record("a#,#,##0b;c#d-\u00a4", " "),
		record("##,####,##0;0\u00a4-%x", ","),
		record(once(), ","),
		dressed("#,##0.##%\u00a4", "arab", "\u066c"),
		dressed("\u00a4#,##,##0.00;-\u00a4\u00a00%", "deva", "e\u0301"),
		dressed("\u00a4\u00a00", "fullwide", ""),
		record(long+"#,##0"+long+";0-", ","),
		record("#,0;"+long+"-0"+long, "\u202f"),
		wide,
		alike,
	}
}

// made is the locale of a record that may be.
func made(t testing.TB, r locale.Record) *locale.Locale {
	t.Helper()
	l, err := locale.New(r)
	if err != nil {
		t.Fatalf("%+v: %v", r, err)
	}
	return l
}

// named is one of the forty locales.
func named(t testing.TB, name string) *locale.Locale {
	t.Helper()
	l, err := forty.Get(name)
	if err != api.OK {
		t.Fatal(name, err)
	}
	return l
}

// locales is the forty locales, and those of the records.
func locales(t testing.TB) []*locale.Locale {
	t.Helper()
	var all []*locale.Locale
	for _, r := range forty.All() {
		all = append(all, made(t, r))
	}
	for _, r := range records() {
		all = append(all, made(t, r))
	}
	return all
}

// typed is the draft that has a text.
func typed(text string) draft.Draft {
	rest, neg := strings.CutPrefix(text, "-")
	var atoms []int
	for _, b := range []byte(rest) {
		if b == '.' {
			atoms = append(atoms, draft.Point)
		} else {
			atoms = append(atoms, int(b-'0'))
		}
	}
	d, err := draft.Of(neg, atoms...)
	if err != api.OK || draft.Text(d) != text {
		panic(text)
	}
	return d
}

// shown is what a locale shows of the draft that has a text.
func shown(l *locale.Locale, text string) string { return item.Text(item.Items(l, typed(text))) }

// eachText tells every text of up to so many of these pieces.
func eachText(pieces []string, most int, tell func(text string)) {
	var longer func(text string, left int)
	longer = func(text string, left int) {
		tell(text)
		if left == 0 {
			return
		}
		for _, one := range pieces {
			longer(text+one, left-1)
		}
	}
	longer("", most)
}

// few is the texts of some drafts: with no atom, digits alone, the separator alone, both, noughts ahead and behind, with the sign and without.
func few() []string {
	var all []string
	for _, text := range []string{"", ".", "7", "0", ".0", "5.", "00", "0012", "12.50", "1234.500", "905060", "1234567.", "00012345.678900"} {
		all = append(all, text, "-"+text)
	}
	return all
}

// fewer is some of these, short and long.
func fewer() []string { return []string{"", "-", ".", "-7.", "0012", "-12.50", "1234.5", "-1234567"} }

// texts is the texts of many drafts: those of all short ones, and of long ones with all digits.
func texts() []string {
	var all []string
	add := func(text string) {
		if strings.Count(text, ".") <= 1 {
			all = append(all, text, "-"+text)
		}
	}
	eachText([]string{"0", "3", "."}, 4, add)
	for n := 5; n <= 13; n++ {
		digits := "9050607081234"[:n]
		for _, rest := range []string{"", ".", ".0", ".75", ".1234567890"} {
			add(digits + rest)
		}
	}
	full := strings.Repeat("8", api.MaxDigits)
	for _, text := range []string{full, full + "." + full, "." + full, full[1:], full + full + "1", full + "." + full + full} {
		add(text)
	}
	return all
}

// modelled is the draft that a text shows, and whether there is one: a draft that is shown so has the digits, the separators and the sign that stand there.
func modelled(l *locale.Locale, s string) (draft.Draft, bool) {
	var atoms []int
	neg := false
	for _, one := range cluster.Split(s) {
		switch k := l.Sign(one); {
		case k == 12:
			neg = true
		case k >= 0 && k <= draft.Point:
			atoms = append(atoms, k)
		}
	}
	d, err := draft.Of(neg, atoms...)
	if err != api.OK || item.Text(item.Items(l, d)) != s {
		return draft.Draft{}, false
	}
	return d, true
}

// check holds what all calls answer of a text that is shown against its draft.
func check(t *testing.T, l *locale.Locale, s string, want draft.Draft) {
	t.Helper()
	d, err := strict.Parse(l, s)
	if err != api.OK || !draft.Same(d, want) {
		t.Fatalf("%s: Parse(%q): %q, %v, not %q", l.Record().Name, s, draft.Text(d), err, draft.Text(want))
	}
	if !strict.Is(l, s) {
		t.Fatalf("%s: Is(%q): false", l.Record().Name, s)
	}
	x, err := strict.Value(l, s)
	if err != api.OK || !same(x, draft.Dec(want)) {
		t.Fatalf("%s: Value(%q): %v, %v", l.Record().Name, s, x, err)
	}
	items, err := strict.Items(l, s)
	if err != api.OK || !slices.Equal(items, item.Items(l, want)) {
		t.Fatalf("%s: Items(%q): %v, %v", l.Record().Name, s, items, err)
	}
}

// same tells whether two decimals have the same fields.
func same(a, b decimal.Dec) bool {
	return a.Neg == b.Neg && a.Scale == b.Scale && slices.Equal(a.L, b.L)
}

// refuse holds what all calls answer of a text that is not shown.
func refuse(t *testing.T, l *locale.Locale, s string) {
	t.Helper()
	d, err := strict.Parse(l, s)
	if err != api.ErrForm || !draft.Same(d, draft.Draft{}) || len(d.Int)+len(d.Frac) > 0 {
		t.Fatalf("%s: Parse(%q): %q, %v", l.Record().Name, s, draft.Text(d), err)
	}
	if strict.Is(l, s) {
		t.Fatalf("%s: Is(%q): true", l.Record().Name, s)
	}
	if x, err := strict.Value(l, s); err != api.ErrForm || !same(x, decimal.Dec{}) {
		t.Fatalf("%s: Value(%q): %v, %v", l.Record().Name, s, x, err)
	}
	if items, err := strict.Items(l, s); err != api.ErrForm || len(items) != 0 {
		t.Fatalf("%s: Items(%q): %v, %v", l.Record().Name, s, items, err)
	}
	if to, err := strict.Switch(l, l, s); err != api.ErrForm || to != "" {
		t.Fatalf("%s: Switch(%q): %q, %v", l.Record().Name, s, to, err)
	}
}

// judge holds what is answered of a text against the model, and tells whether it is shown.
func judge(t *testing.T, l *locale.Locale, s string) bool {
	t.Helper()
	want, ok := modelled(l, s)
	if ok {
		check(t, l, s, want)
	} else if d, err := strict.Parse(l, s); err != api.ErrForm || !draft.Same(d, draft.Draft{}) {
		t.Fatalf("%s: Parse(%q): %q, %v", l.Record().Name, s, draft.Text(d), err)
	}
	return ok
}

// What the other tests go through is whole: no draft comes twice, and the model reads what is written by hand.
func TestModel(t *testing.T) {
	told := map[string]int{}
	for _, text := range texts() {
		told[text]++
		if told[text] > 1 {
			t.Error(text)
		}
	}
	// Of three signs up to four there are 121 texts, 41 of them with two points or more; and 45 and 6 longer ones.
	if len(told) != 2*(121-41+45+6) || told["-03."] != 1 || told["."] != 1 || told["-"] != 1 || told[""] != 1 {
		t.Error(len(told))
	}
	l := named(t, "en-US")
	for text, want := range map[string]string{"$": "", "-$1,234.": "-1234.", "$1,234.5": "1234.5", "$0": "0"} {
		if d, ok := modelled(l, text); !ok || draft.Text(d) != want {
			t.Error(text, d)
		}
	}
	for _, text := range []string{"", "1", "$1234", "$1.2.3", "$-1", "--$1", "$1,23"} {
		if d, ok := modelled(l, text); ok {
			t.Error(text, d)
		}
	}
}

// P17.1: the document's examples.
func TestExamples(t *testing.T) {
	l := named(t, "en-US")
	d, err := strict.Parse(l, "$01,234.50")
	if err != api.OK || d.Neg || !slices.Equal(d.Int, []int{0, 1, 2, 3, 4}) || !d.Sep || !slices.Equal(d.Frac, []int{5, 0}) {
		t.Error(d, err)
	}
	refuse(t, l, "$1234")
	german := named(t, "de-DE")
	d, err = strict.Parse(german, "0.012,\u00a0\u20ac")
	if err != api.OK || d.Neg || !slices.Equal(d.Int, []int{0, 0, 1, 2}) || !d.Sep || len(d.Frac) != 0 {
		t.Error(d, err)
	}
}

// P17.1: texts that are shown, and their drafts, by hand, of the forty.
func TestShown(t *testing.T) {
	for _, x := range []struct{ name, text, draft string }{
		{"en-US", "$", ""}, {"en-US", "-$", "-"}, {"en-US", "$.", "."}, {"en-US", "-$.", "-."}, {"en-US", "$0", "0"}, {"en-US", "$5.", "5."},
		{"en-US", "$.50", ".50"}, {"en-US", "-$123", "-123"}, {"en-US", "-$1,234.5", "-1234.5"}, {"en-US", "$1,234,567", "1234567"},
		{"en-US", "$000,000", "000000"}, {"en-US", "-$0.00", "-0.00"}, {"en-US", "$.1234567", ".1234567"},
		{"en-IN", "\u20b912,34,567", "1234567"}, {"en-IN", "\u20b91,23,456.7", "123456.7"}, {"en-IN", "-\u20b91,234", "-1234"},
		{"de-DE", "\u00a0\u20ac", ""}, {"de-DE", "-\u00a0\u20ac", "-"}, {"de-DE", "-,\u00a0\u20ac", "-."}, {"de-DE", "-1.234,50\u00a0\u20ac", "-1234.50"},
		{"bg-BG", "\u00a0BGN", ""}, {"bg-BG", "-1234567,8\u00a0BGN", "-1234567.8"}, {"bg-BG", ",\u00a0BGN", "."},
		{"de-CH", "CHF\u00a05", "5"}, {"de-CH", "CHF-5", "-5"}, {"de-CH", "CHF-", "-"}, {"de-CH", "CHF\u00a0", ""}, {"de-CH", "CHF-1\u2019000", "-1000"},
		{"nb-NO", "kr\u00a0\u22121\u202f234", "-1234"}, {"nl-NL", "\u20ac\u00a0-1.234.567,", "-1234567."},
		{"sl-SI", "%", ""}, {"sl-SI", "\u2212%", "-"}, {"sl-SI", "\u221212,5%", "-12.5"}, {"sl-SI", "1.000,%", "1000."},
		{"fa-IR", "", ""}, {"fa-IR", "\u2212", "-"}, {"fa-IR", "\u066b", "."}, {"fa-IR", "\u2212\u066b\u06f7", "-.7"}, {"fa-IR", "\u06f1\u066c\u06f2\u06f3\u06f4", "1234"},
		{"ar-EG", "EGP\u0661\u066c\u0662\u0663\u0664\u066b\u0665", "1234.5"}, {"ar-EG", "-EGP\u066b", "-."},
		{"hi-IN", "\u20b9\u0967,\u0968\u0969,\u096a\u096b\u096c", "123456"}, {"lo-LA", "\u20ad-\u0ed1.\u0ed0\u0ed0\u0ed0,\u0ed9", "-1000.9"},
		{"ja-JP", "\uffe51,234", "1234"}, {"ja-JP", "\uffe5.25", ".25"}, {"zh-CN", "-\u00a5007", "-007"},
	} {
		check(t, named(t, x.name), x.text, typed(x.draft))
	}
}

// P17.1: likewise of other records: the sign behind, affixes on both sides, symbols of some characters, groups of one digit, and one group alone.
func TestShownRecords(t *testing.T) {
	all := records()
	for _, x := range []struct {
		record      int
		text, draft string
	}{
		{0, "", ""}, {0, "-", "-"}, {0, ".", "."}, {0, "1234", "1234"}, {0, "-1.", "-1."},
		{1, "-", "-"}, {1, "1-", "-1"}, {1, ".-", "-."}, {1, "12.30-", "-12.30"}, {1, "12.30", "12.30"},
		{6, "<>", ""}, {6, "-<>", "-"}, {6, "-<.5>", "-.5"}, {7, "-3", "-3"}, {7, "<3>", "3"}, {8, "<->", "-"}, {8, "<-0.>", "-0."}, {8, "0.", "0."},
		{9, "aaaabbbb", ""}, {9, "(-)", "-"}, {9, "(1,2,3.4-)", "-123.4"}, {9, "aaaa1,2,3bbbb", "123"}, {9, "(.-)", "-."},
		{10, "aaa", ""}, {10, "a-a", "-"}, {10, "aa0,0a", "00"}, {10, "a0,0-a", "-00"},
		{11, "$-<1,23>", "-123"}, {11, "$-<>", "-"}, {11, "1,23,45,67.", "1234567."}, {11, "1,23,45", "12345"},
		{12, "c1 234d-$", "-1234"}, {12, "a1 234b", "1234"}, {12, "a1 2 345b", "12345"}, {12, "ab", ""},
		{13, "1,2345,678$-%x", "-12345678"}, {13, "$-%x", "-"},
		{14, "1234567,89", "123456789"}, {14, "-1,00", "-100"}, {14, "12", "12"}, {14, strings.Repeat("7", 61) + ",00.5", strings.Repeat("7", 61) + "00.5"},
		{14, "1," + strings.Repeat("7", 61) + ",00", "1" + strings.Repeat("7", 61) + "00"},
		{16, "m\u0304\u0301R\u0301s\u00a0\u0967\u0968e\u0301\u0969\u096a\u096bx\u0323\u096c\u066a", "-12345.6"},
		{17, "m\u0304\u0301R\u0301s\u00a0\uff10x\u0323", "-0."}, {17, "R\u0301s\u00a0", ""},
		{20, "R\u0301sa\U0001d7edg" + strings.Repeat("\u0301", 7) + "\U0001d7ee\U0001d7efb", "123"},
		{21, "ee1e\u0301234e\u03235e", "1234.5"}, {21, "(eee\u0301\u03011e\u0301234e\u0323e)", "-1234."}, {21, "eee", ""}, {21, "(eee\u0301\u0301e)", "-"},
	} {
		check(t, made(t, all[x.record]), x.text, typed(x.draft))
	}
}

// P17.1: texts that are not shown, by hand.
func TestNotShown(t *testing.T) {
	for name, l := range map[string][]string{
		"en-US": {"", "1", "1,234", " $1", "$1 ", "$ 1", "$1234", "$12,34", "$1,23", "$1,2345", "$,123", "$123,", "$1,,234", "$1,234,", "$,", "$12,345,67", "$1,234567",
			"$1.2.3", "$..", "$1..", "$.1.", "$1,234.5.", "$.1,234", "$1.234,5", "$1.,", "$,.", "$1,.5", "$1,234.567,8",
			"-1", "$-1", "$1-", "--$1", "-$-1", "-$1-", "- $1", "\u2212$1", "+$1", "($1)", "-", "$-", "--$",
			"$$1", "$1$", "$$", "-$$1", "-$1$", "$-$1", "\u00a41", "US$1", "\u20ac1", "\uff04" + "1",
			"$\u0661", "$\uff11", "$1\u0660", "$\u06f1", "$1\u066b5", "$1\u066c234", "$1\u0301", "$\u03011", "$1,\u0301234", "$1.\u03015", "$\u0301", "-\u0301$1", "\u0301", "$1\u200d", "$1\r",
			"$1\xff", "\xff$1", "$\xff", "\xff", "$1\xff,234", "$1\x80", "$1\xef\xbf\xbd", "$1\x00", "\x00", "$a", "$1e5", "$x", "$0x1", "$Inf", "$1$2", "$1-$2", "-$1-$2", "-$1$2", "$\n", "$1\n", "1$"},
		"de-DE": {"", "\u20ac", "\u00a0", "1", "1\u20ac", "1 \u20ac", "1\u00a0", "1\u00a0\u20ac\u00a0\u20ac", "\u00a0\u20ac1", "1\u00a0\u20ac ", "1234\u00a0\u20ac", "1,234\u00a0\u20ac5", "1,234.5\u00a0\u20ac",
			"1.23\u00a0\u20ac", "1\u00a0-\u20ac", "1-\u00a0\u20ac", "1\u00a0\u20ac-", "--1\u00a0\u20ac", "-1\u00a0\u20ac-", "1\u00a0\xe2\x82", "1\xa0\u20ac", "1\xc2\u20ac", "1\u00a0\u20ac\u0301", "1\u00a0\u0301\u20ac", "-", "-\u00a0\u20ac\u00a0\u20ac"},
		"de-CH": {"", "CHF", "CHF5", "CHF\u00a0-5", "-CHF\u00a05", "CHF-\u00a05", "CHF--5", "CHF-CHF-5", "CH\u00a05", "CHF-1'000", "CHF\u00a01\u20190000", "CHF-1000", "chf-5", "CHF -5"},
		"bg-BG": {"", "1 234\u00a0BGN", "1.234\u00a0BGN", "1,2,3\u00a0BGN", "BGN", "1BGN", "1\u00a0BG", "1\u00a0BGNN", "1\u00a0\u00a0BGN", "-1-\u00a0BGN"},
		"fa-IR": {"1", "-", "\u0661", "-\u06f1", "\u06f1\u2212", "\u2212\u2212", "\u066b\u066b", "\u066c", "\u06f1\u06f2\u06f3\u06f4", "\u06f1,\u06f2\u06f3\u06f4", "\u06f1.", "\u06f1 ", " ", "\xdb", "\u06f1\xdb", "\xb1"},
		"en-IN": {"\u20b91,234,567", "\u20b91234567", "\u20b912,34,5,67", "\u20b91,2,345", "\u20b912,345,67", "\u20b9123,456", "\u20b9"[:2], "\u20b9"[:1], "\u20b9"[1:], "\u20b9\u0967"},
		"sl-SI": {"", "1", "12,5 %", "%1", "1%%", "1%\u2212", "-1%", "\u2212\u22121%", "1.000.%", "1.00%", "1,0,%", "\u066a"},
	} {
		for _, s := range l {
			refuse(t, named(t, name), s)
		}
	}
}

// P17.1: likewise of other records.
func TestNotShownRecords(t *testing.T) {
	all := records()
	for record, l := range map[int][]string{
		0:  {"--", "-1-", "1-", "1,234", "1 ", "<1>", "..", "1.2.", "+1", "\u0661", "$", "%"},
		1:  {"-1", "--", "1--", "-1-", ".-.", "1-2", "1,2"},
		6:  {"", "<", ">", "<1", "1>", "1", "-1", "<-1>", "<1>-", "-<1", "--<1>", "<<1>>", "<1><2>", "><", "<1>>", "-<1>>", "<1,2>"},
		7:  {"3", "-<3>", "<-3>", "<3", "3>", "--3", "-3-", "", "-3>"},
		8:  {"-", "-1", "<1>", "<>", "1>", "<-1", "-1>", "<1->", "<--1>", "<-1>>"},
		9:  {"", "aaaa", "bbbb", "aaabbbb", "aaaabbb", "aaaaabbbb", "aaaa12bbbb", "aaaa1,bbbb", "aaaa,1bbbb", "(1)", "(1-", "1-)", "(-1)", "-(1)", "(12-)", "aaaa1-bbbb", "(1-)(2-)", "aaaabbbbaaaabbbb", "(--)", "(1,-)"},
		10: {"", "a", "aa", "aaaa", "a0a", "aa0-a", "a0a-", "aa-a", "a-aa", "-a", "a-", "aa00a"},
		11: {"$<1>", "$-1", "-1", "$-<1", "<1>", "$-<123>", "1,234", "123,45", "$-<1,23>$-<1,23>", "123"},
		12: {"a1234b", "a1 2345b", "a1 2 34b", "a12 345b", "c1d-", "c1d$", "c1-d$", "a-1b", "a1b-", "ad-$", "cb"},
		14: {"12345,6789", "123456789", "1,2345678,9", "12,34,56", "1," + strings.Repeat("7", 60) + ",00", strings.Repeat("7", 62) + ",00", "1,2", "100"},
		15: {"\u0661", "m\u0304\u0661\u066aR\u0301s", "\u0661\u066aRs", "\u0661\u066aR\u0301", "\u0661\u066a", "\u0661\u0662\u0663\u0664\u066aR\u0301s", "1\u066aR\u0301s", "\u0661x\u066aR\u0301s", "\u0661\u0323\u066aR\u0301s"},
		16: {"R\u0301s\u0967\u0968\u0969\u096a", "R\u0301s\u0967e\u0968\u0969\u096a", "R\u0301s\u0967\u0301\u0968\u0969\u096a", "R\u0301s\u0967e\u0301\u0301\u0968\u0969\u096a", "Rs\u0967"},
		21: {"ee1234e", "ee1e234e", "ee1e\u0301\u0301234e", "ee1e\u0301e\u0301234e", "e", "ee", "ee1", "(eee\u03011e)", "(ee1e)", "(eee\u0301\u03011e", "eee\u0301\u03011e", "ee1e\u03232e\u0323e", "(eee\u0301\u0301\u03011e)"},
	} {
		for _, s := range l {
			refuse(t, made(t, all[record]), s)
		}
	}
}

// P17.1: a text's number, by hand: trim, and 0 without a sign.
func TestValue(t *testing.T) {
	for _, x := range []struct{ name, text, want string }{
		{"en-US", "$", "0"}, {"en-US", "-$", "0"}, {"en-US", "-$.", "0"}, {"en-US", "-$0.00", "0"}, {"en-US", "$007.50", "7.5"}, {"en-US", "-$0.050", "-0.05"},
		{"en-US", "$1,234.", "1234"}, {"en-US", "-$1,234,000", "-1234000"}, {"en-US", "$.5", "0.5"}, {"de-DE", "0.012,\u00a0\u20ac", "12"},
		{"ar-EG", "-EGP\u0661\u066c\u0662\u0663\u0664\u066b\u0665\u0660", "-1234.5"}, {"bg-BG", "1234567,80\u00a0BGN", "1234567.8"}, {"fa-IR", "", "0"}, {"fa-IR", "\u2212\u066b\u06f7", "-0.7"},
	} {
		got, err := strict.Value(named(t, x.name), x.text)
		want, _ := decimal.Parse(x.want)
		if err != api.OK || !same(got, decimal.Trim(want)) {
			t.Errorf("%q: %v, %v", x.text, got, err)
		}
	}
	for digits, scale := range map[string]int{strings.Repeat("9", 1000): 1000, strings.Repeat("9", 1000) + "00": 1000, strings.Repeat("0", 999) + "1": 1000} {
		got, err := strict.Value(named(t, "en-US"), "-$."+digits)
		if err != api.OK || got.Scale != scale || !decimal.May(got) || !got.Neg {
			t.Errorf("%d digits: %v, %v", len(digits), got.Scale, err)
		}
	}
}

// P17.1: a text's items, by hand.
func TestItems(t *testing.T) {
	got, err := strict.Items(named(t, "de-CH"), "CHF-1\u2019000.7")
	want := []item.Item{{Tag: item.Affix, Text: "CHF", Atom: -1}, {Tag: item.Sign, Text: "-", Atom: -1}, {Tag: item.Digit, Text: "1"}, {Tag: item.Group, Text: "\u2019", Atom: -1},
		{Tag: item.Digit, Text: "0", Atom: 1}, {Tag: item.Digit, Text: "0", Atom: 2}, {Tag: item.Digit, Text: "0", Atom: 3}, {Tag: item.Decimal, Text: ".", Atom: 4}, {Tag: item.Digit, Text: "7", Atom: 5}}
	if err != api.OK || !slices.Equal(got, want) {
		t.Error(got, err)
	}
	if got, err = strict.Items(named(t, "fa-IR"), ""); err != api.OK || len(got) != 0 {
		t.Error(got, err)
	}
}

// P17.1, P17.3: each draft's text is read as that draft, by each locale, and that draft is shown as that text.
func TestEach(t *testing.T) {
	for _, l := range locales(t) {
		for _, text := range texts() {
			s := shown(l, text)
			check(t, l, s, typed(text))
			if again, err := strict.Switch(l, l, s); err != api.OK || again != s {
				t.Fatalf("%q: %q, %v", s, again, err)
			}
		}
		for d := range 10 {
			digit := string(rune('0' + d))
			for _, text := range []string{digit, "-" + digit, "." + digit, digit + digit + digit + digit + "." + digit} {
				check(t, l, shown(l, text), typed(text))
			}
		}
	}
}

// P17.3: two drafts that are not the same are not shown alike.
func TestNotAlike(t *testing.T) {
	for _, l := range locales(t) {
		first := map[string]string{}
		for _, text := range texts() {
			s := shown(l, text)
			if other, ok := first[s]; ok {
				t.Fatalf("%q shows %q and %q", s, other, text)
			}
			first[s] = text
		}
	}
}

// P17.1, P17.3: every short text of a locale's symbols and others: it is shown, if a draft is shown so.
func TestEveryText(t *testing.T) {
	for _, x := range []struct {
		record locale.Record
		most   int
		pieces []string
	}{
		{record("0", ""), 5, []string{"0", "1", ".", ",", "-", "\u0301", "\xff"}},
		{record("0;0-", ""), 5, []string{"0", "1", ".", "-", "\u0661", " "}},
		{record("#,0", ","), 6, []string{"0", "1", ".", ",", "-"}},
		{record("#,#0", ","), 7, []string{"1", ".", ",", "-"}},
		{record("#,##0", ","), 8, []string{"1", ".", ","}},
		{record("#,#,##0", ","), 8, []string{"1", ".", ","}},
		{record("\u00a4#,0", ","), 6, []string{"0", "1", ".", ",", "-", "$"}},
		{record("#,0\u00a4", ","), 6, []string{"1", ".", ",", "-", "$", "\u0301"}},
		{record("<#,0>;(0-)", ","), 6, []string{"1", ".", ",", "-", "<", ">", "(", ")"}},
		{record("a#,0a;a0-a", ","), 7, []string{"1", ".", ",", "-", "a"}},
		{record("aa0;a-a0a", ""), 7, []string{"1", ".", "-", "a"}},
		{record("\u00a4#,0;-\u00a40\u00a4", ","), 6, []string{"1", ".", ",", "-", "$", "\x00"}},
		{dressed("\u00a4#,0", "deva", "e\u0301"), 6, []string{"\u0967", "x\u0323", "e\u0301", "m\u0304\u0301", "R\u0301s", "\u0301"}},
		{dressed("#,0", "arab", "e"), 5, []string{"\u0661", "x", "e", "m", "\u0301", "\u0304", "\u0323", "1"}},
	} {
		l := made(t, x.record)
		drafts := map[string]string{}
		eachText([]string{"0", "1", "."}, x.most, func(text string) {
			if strings.Count(text, ".") <= 1 {
				drafts[shown(l, text)], drafts[shown(l, "-"+text)] = text, "-"+text
			}
		})
		found := 0
		eachText(x.pieces, x.most, func(s string) {
			if text, ok := drafts[s]; ok {
				found++
				check(t, l, s, typed(text))
			} else if strict.Is(l, s) {
				t.Fatalf("%+v: Is(%q)", x.record, s)
			}
		})
		if found < 2*x.most {
			t.Errorf("%+v: %d texts are shown", x.record, found)
		}
	}
}

// P17.1: a byte fewer, more, or another one, at each place.
func TestOneByte(t *testing.T) {
	other := []byte{0, '$', ',', '-', '.', '1', 0x80, 0xcc, 0xff}
	for _, l := range locales(t) {
		for _, text := range fewer() {
			s := shown(l, text)
			for i := range len(s) + 1 {
				for _, b := range other {
					judge(t, l, s[:i]+string([]byte{b})+s[i:])
				}
				if i == len(s) {
					continue
				}
				judge(t, l, s[:i]+s[i+1:])
				judge(t, l, s[:i])
				judge(t, l, s[i:])
				for _, b := range []byte{0, s[i] + 1, s[i] - 1, s[i] ^ 0x80, 0xff} {
					judge(t, l, s[:i]+string([]byte{b})+s[i+1:])
				}
			}
		}
	}
}

// P17.1: a cluster fewer, twice, and changed with the one behind it; and each of the locale's symbols, a mark, and others, at each place.
func TestOneCluster(t *testing.T) {
	for _, l := range locales(t) {
		r := l.Record()
		other := []string{l.Digit(0), l.Digit(9), r.Decimal, r.Group, r.Minus, r.Currency, r.Percent, "\u0301", "\u200d", "\u00a0", "\ufffd", "\U0001d7ce", "9"}
		for _, text := range fewer() {
			one := cluster.Split(shown(l, text))
			for i := range len(one) + 1 {
				ahead, behind := strings.Join(one[:i], ""), strings.Join(one[i:], "")
				for _, x := range other {
					judge(t, l, ahead+x+behind)
				}
				if i == len(one) {
					continue
				}
				rest := strings.Join(one[i+1:], "")
				judge(t, l, ahead+rest)
				judge(t, l, ahead+one[i]+behind)
				for _, x := range other {
					judge(t, l, ahead+x+rest)
				}
				if i+1 < len(one) {
					judge(t, l, ahead+one[i+1]+one[i]+strings.Join(one[i+2:], ""))
				}
			}
		}
	}
}

// cut is the items without that at a place.
func cut(items []item.Item, i int) []item.Item {
	return append(slices.Clone(items[:i]), items[i+1:]...)
}

// put is the items with one more at a place.
func put(items []item.Item, i int, one item.Item) []item.Item {
	return slices.Insert(slices.Clone(items), i, one)
}

// P17.1: a group that is missing, too many, or at another place, is no group.
func TestGroups(t *testing.T) {
	moved := 0
	for _, l := range locales(t) {
		primary, _ := l.Sizes()
		if primary == 0 {
			continue
		}
		group := item.Item{Tag: item.Group, Text: l.Record().Group, Atom: -1}
		for _, text := range append(few(), "1234567890", "-12345678901234.5") {
			items := item.Items(l, typed(text))
			for i := range len(items) + 1 {
				refuse(t, l, item.Text(put(items, i, group)))
				if i == len(items) || items[i].Tag != item.Group {
					continue
				}
				without := cut(items, i)
				refuse(t, l, item.Text(without))
				for k := range len(without) + 1 {
					if s := item.Text(put(without, k, group)); k != i {
						refuse(t, l, s)
						moved++
					} else {
						check(t, l, s, typed(text))
					}
				}
			}
		}
	}
	if moved < 1000 {
		t.Error(moved)
	}
}

// P17.1: a sign that is missing, twice, or at another place; and an affix that is missing, cut or twice.
func TestAround(t *testing.T) {
	for _, l := range locales(t) {
		sign := item.Item{Tag: item.Sign, Text: l.Record().Minus, Atom: -1}
		for _, text := range few() {
			items := item.Items(l, typed(text))
			for i, one := range items {
				switch {
				case one.Tag == item.Sign:
					refuse(t, l, item.Text(put(items, i, sign)))
					judge(t, l, item.Text(cut(items, i)))
					for k := range len(items) {
						if s := item.Text(put(cut(items, i), k, sign)); k != i {
							refuse(t, l, s)
						}
					}
				case one.Tag == item.Affix:
					refuse(t, l, item.Text(cut(items, i)))
					refuse(t, l, item.Text(put(items, i, one)))
					for k := 1; k < len(one.Text); k++ {
						shorter := slices.Clone(items)
						shorter[i].Text = one.Text[:k]
						refuse(t, l, item.Text(shorter))
						shorter[i].Text = one.Text[k:]
						refuse(t, l, item.Text(shorter))
					}
				}
			}
			if !strings.HasPrefix(text, "-") {
				for k := range len(items) + 1 {
					judge(t, l, item.Text(put(items, k, sign)))
				}
			}
		}
	}
}

// P17.1: digits of another system are none.
func TestOtherDigits(t *testing.T) {
	for _, l := range locales(t) {
		for _, text := range []string{"7", "-1234.50", ".0", "0012345"} {
			items := item.Items(l, typed(text))
			for i, one := range items {
				if one.Tag != item.Digit {
					continue
				}
				for _, name := range system.Names() {
					other := slices.Clone(items)
					other[i].Text, _ = system.Digit(name, l.Sign(one.Text))
					if name == l.Record().System {
						check(t, l, item.Text(other), typed(text))
					} else {
						refuse(t, l, item.Text(other))
					}
				}
			}
		}
	}
}

// P17.1: a mark behind a digit, or the separator, makes another cluster of it.
func TestMarks(t *testing.T) {
	for _, l := range locales(t) {
		for _, text := range few() {
			items := item.Items(l, typed(text))
			for i := range items {
				for _, mark := range []string{"\u0301", "\u20dd", "\ufe0f", "\u200d", "\u0903"} {
					marked := slices.Clone(items)
					marked[i].Text += mark
					refuse(t, l, item.Text(marked))
					refuse(t, l, mark+item.Text(items))
				}
			}
		}
	}
}

// P17.1: two texts one behind the other.
func TestTwo(t *testing.T) {
	for _, l := range locales(t) {
		ahead, behind := l.Around(false)
		bare := len(ahead)+len(behind) == 0
		for _, a := range few() {
			for _, b := range few() {
				signed := strings.Contains(a+b, "-")
				both := shown(l, a) + shown(l, b)
				if judge(t, l, both) && !bare && !signed {
					t.Fatalf("%q", both)
				}
			}
		}
	}
}

// P17.2: a text by another locale, by hand.
func TestSwitch(t *testing.T) {
	for _, x := range []struct{ from, text, to, want string }{
		{"en-US", "-$1,234.50", "de-DE", "-1.234,50\u00a0\u20ac"}, {"de-DE", "-1.234,50\u00a0\u20ac", "en-IN", "-\u20b91,234.50"},
		{"en-IN", "\u20b912,34,567", "bg-BG", "1234567\u00a0BGN"}, {"bg-BG", "1234567,\u00a0BGN", "ar-EG", "EGP\u0661\u066c\u0662\u0663\u0664\u066c\u0665\u0666\u0667\u066b"},
		{"fa-IR", "", "de-CH", "CHF\u00a0"}, {"fa-IR", "\u2212", "de-CH", "CHF-"}, {"de-CH", "CHF\u00a0", "fa-IR", ""}, {"sl-SI", "\u2212,0%", "nb-NO", "kr\u00a0\u2212,0"},
		{"ja-JP", "\uffe5007", "hi-IN", "\u20b9\u0966\u0966\u096d"}, {"en-US", "$", "en-US", "$"},
	} {
		got, err := strict.Switch(named(t, x.from), named(t, x.to), x.text)
		if err != api.OK || got != x.want {
			t.Errorf("%q: %q, %v", x.text, got, err)
		}
	}
	for _, x := range []struct{ from, text, to string }{
		{"en-US", "-1.234,50\u00a0\u20ac", "de-DE"}, {"de-DE", "$1", "en-US"}, {"en-US", "$1234", "bg-BG"}, {"en-US", "", "fa-IR"}, {"de-DE", "1,234.5\u00a0\u20ac", "en-US"}, {"fa-IR", "\xff", "fa-IR"},
	} {
		if got, err := strict.Switch(named(t, x.from), named(t, x.to), x.text); err != api.ErrForm || got != "" {
			t.Errorf("%q: %q, %v", x.text, got, err)
		}
	}
}

// P17.2: between every two locales there and back.
func TestThereAndBack(t *testing.T) {
	all := locales(t)
	for _, from := range all {
		for _, to := range all {
			for _, text := range few() {
				here, there := shown(from, text), shown(to, text)
				if s, err := strict.Switch(from, to, here); err != api.OK || s != there {
					t.Fatalf("%q: %q, %v, not %q", here, s, err, there)
				}
				if s, err := strict.Switch(to, from, there); err != api.OK || s != here {
					t.Fatalf("%q: %q, %v, not %q", there, s, err, here)
				}
				// By the other locale it is shown, or it is not: as it is read.
				want := ""
				d, ok := modelled(to, here)
				if ok {
					want = item.Text(item.Items(from, d))
				}
				if s, err := strict.Switch(to, from, here); s != want || (err == api.OK) != ok || !ok && err != api.ErrForm {
					t.Fatalf("%q: %q, %v, not %q", here, s, err, want)
				}
			}
		}
	}
}

// R4, R5: what is answered is new memory, and the same asked again.
func TestAgain(t *testing.T) {
	for _, l := range locales(t) {
		before := l.Record()
		for _, text := range few() {
			s := shown(l, text)
			for range 2 {
				check(t, l, s, typed(text))
				d, _ := strict.Parse(l, s)
				x, _ := strict.Value(l, s)
				items, _ := strict.Items(l, s)
				for _, list := range [][]int{d.Int, d.Frac, x.L} {
					list = list[:cap(list)]
					for i := range list {
						list[i] = 77
					}
				}
				items = items[:cap(items)]
				for i := range items {
					items[i] = item.Item{Tag: 77, Text: "x", Atom: 77}
				}
			}
		}
		if l.Record() != before {
			t.Fatal(l.Record())
		}
	}
}

// R4: the lists of a draft do not share their room.
func TestRoom(t *testing.T) {
	l := named(t, "en-US")
	d, _ := strict.Parse(l, "$1,234.50")
	d.Int = append(d.Int, 9, 9, 9)
	if !slices.Equal(d.Frac, []int{5, 0}) {
		t.Error(d)
	}
	d.Frac = append(d.Frac, 8)
	if !slices.Equal(d.Int, []int{1, 2, 3, 4, 9, 9, 9}) {
		t.Error(d)
	}
}

// R1: long texts, shown or not, are read soon.
func TestLong(t *testing.T) {
	const n = 1 << 16
	l := named(t, "en-IN")
	text := "-" + strings.Repeat("1", n) + "." + strings.Repeat("7", n)
	s := shown(l, text)
	d, err := strict.Parse(l, s)
	if err != api.OK || draft.Text(d) != text {
		t.Error(len(s), err)
	}
	for _, s := range []string{s[1:] + "-", s + ".", s[:n] + s[n+1:], strings.Repeat("-", n), strings.Repeat("1,", n), strings.Repeat("\xff", n),
		"\u20b91" + strings.Repeat("\u0301", n), "\u20b9" + strings.Repeat("1", n), "\u20b9" + strings.Repeat(",", n), "\u20b9" + strings.Repeat(".", n), strings.Repeat("\u20b9", n)} {
		refuse(t, l, s)
	}
}
