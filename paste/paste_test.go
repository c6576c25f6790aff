package paste_test

import (
	"slices"
	"strings"
	"testing"

	"abacist/api"
	"abacist/class"
	"abacist/cluster"
	"abacist/draft"
	"abacist/forty"
	"abacist/item"
	"abacist/locale"
	"abacist/paste"
	"abacist/system"
	"abacist/utf"
)

// record is a record of a pattern, with a group's symbol or without.
func record(pattern, group string) locale.Record {
	return locale.Record{Name: "x", Pattern: pattern, System: "latn", Decimal: ".", Group: group, Minus: "-", Percent: "%", Currency: "$"}
}

// changed is a record with other symbols.
func changed(system, decimal, group, minus string) locale.Record {
	r := record("#,##0.00", group)
	r.System, r.Decimal, r.Minus = system, decimal, minus
	return r
}

// spelt is a record with that currency, ahead of the number.
func spelt(currency string) locale.Record {
	r := record("\u00a4#,##0", ",")
	r.Currency = currency
	return r
}

// records is records whose symbols, or affixes, are what another row of the table names too, or have several characters.
func records() []locale.Record {
	marked := changed("deva", "x\u0323", "g\u0301\u0304", "m\u0304")
	marked.Pattern, marked.Currency = "\u00a4#,##,##0.00'e\u0301'%", "R\u0301s"
	dot := spelt("a.b")
	dot.Decimal = ":"
	hanging := record("\u00a4 #,##0;(\u00a4 -0)", ",")
	hanging.Minus, hanging.Currency = "\u2212", "a-b"
	return []locale.Record{
		record("0", ""),
		record("0.00;0-", ""),
		record("#,##0 \u00a4", "'"),
		record("<#,0>;(0-)", ","),
		changed("latn", "-", ".", "\u2212"),      // the separator is the character 45, the group 46
		changed("latn", "\u2212", "-", "."),      // the sign is 46
		changed("latn", " ", "\u00a0", "n"),      // blanks
		changed("arab", "5", "\u06f7", "\uff13"), // other systems' digits
		changed("latn", "\ufffd", ",", "-"),      // what spoilt bytes count as
		changed("latn", ",", "\ufffd", "-"),
		changed("latn", ",", "'", "\ufffd"),
		marked,
		hanging,
		dot, spelt("x\u2212"), spelt("k\u0664"), spelt("\uff11"), spelt("\ufffdc"), spelt("a b"), spelt("\u0660\u0301z"),
	}
}

// The places of these among the records.
const (
	signedBehind = 1
	minusAsPoint = 4
	pointAsSign  = 5
	blanks       = 6
	digits       = 7
	spoiltPoint  = 8
	spoiltGroup  = 9
	spoiltSign   = 10
	marked       = 11
	hanging      = 12
	dotted       = 13
	dashed       = 14
	arabic       = 15
	spoiltAffix  = 17
	digitMarked  = 19
)

// made is the locale of a record that may be.
func made(t testing.TB, r locale.Record) *locale.Locale {
	t.Helper()
	l, err := locale.New(r)
	if err != nil {
		t.Fatalf("%+v: %v", r, err)
	}
	return l
}

// odd is the locale of one of the records.
func odd(t testing.TB, i int) *locale.Locale {
	t.Helper()
	return made(t, records()[i])
}

// named is one of the forty locales.
func named(t testing.TB, name string) *locale.Locale {
	t.Helper()
	l, err := forty.Get(name)
	if err != api.OK {
		t.Fatal(name, err)
	}
	return l
}

// locales is the forty locales, and those of the records.
func locales(t testing.TB) []*locale.Locale {
	t.Helper()
	var all []*locale.Locale
	for _, r := range forty.All() {
		all = append(all, made(t, r))
	}
	for _, r := range records() {
		all = append(all, made(t, r))
	}
	return all
}

// eachList tells every list of up to so many of these.
func eachList(of []string, most int, tell func(l []string)) {
	var longer func(l []string)
	longer = func(l []string) {
		tell(l)
		if len(l) == most {
			return
		}
		for _, one := range of {
			longer(append(slices.Clone(l), one))
		}
	}
	longer(nil)
}

// digitsOf is which digit of some system a text is.
var digitsOf = func() map[string]int {
	all := map[string]int{}
	for _, name := range system.Names() {
		for d := range 10 {
			s, _ := system.Digit(name, d)
			all[s] = d
		}
	}
	return all
}()

// modelled is what a cluster is, row by row: of all that fit it takes the first.
func modelled(l *locale.Locale, one string) int {
	if cluster.Len(one) != 1 {
		return -1
	}
	var fits []int
	if k := l.Sign(one); k >= 0 {
		fits = append(fits, k)
	}
	if d, is := digitsOf[one]; is {
		fits = append(fits, d)
	}
	all := utf.All(one)
	switch {
	case len(all) > 1:
	case all[0] == 45 || all[0] == 8722:
		fits = append(fits, 12)
	case all[0] == 46:
		fits = append(fits, 10)
	}
	if class.Blank(all[0]) || l.Affix(one) {
		fits = append(fits, 11)
	}
	return append(fits, -1)[0]
}

// refused is why a text may not go on with a cluster behind those ahead of it, as the document tells it of each cluster.
func refused(ahead []int, kind int) api.Errno {
	atom := func(k int) bool { return 0 <= k && k <= 10 }
	signAt := slices.Index(ahead, 12)
	behind := signAt >= 0 && slices.ContainsFunc(ahead[:max(signAt, 0)], atom)
	switch {
	case kind == -1:
		return api.ErrForm
	case kind == 12 && signAt >= 0, atom(kind) && behind:
		return api.ErrSign
	case kind == 10 && slices.Contains(ahead, 10):
		return api.ErrTwice
	}
	return api.OK
}

// clipped is the clip of a text whose clusters are these.
func clipped(kinds []int) (paste.Clip, api.Errno) {
	var c paste.Clip
	for i, k := range kinds {
		if err := refused(kinds[:i], k); err != api.OK {
			return paste.Clip{}, err
		}
		if k == 12 {
			c.Neg = true
		} else if k <= 10 {
			c.Atoms = append(c.Atoms, k)
		}
	}
	if !c.Neg && len(c.Atoms) == 0 {
		return paste.Clip{}, api.ErrNone
	}
	return c, api.OK
}

// reads holds what is read of a text against a clip and an error.
func reads(t *testing.T, l *locale.Locale, s string, want paste.Clip, wrong api.Errno) {
	t.Helper()
	c, err := paste.Read(l, s)
	if err != wrong || c.Neg != want.Neg || !slices.Equal(c.Atoms, want.Atoms) || err != api.OK && c.Atoms != nil {
		t.Fatalf("%+v: Read(%q): %v, %v, not %v, %v", l.Record(), s, c, err, want, wrong)
	}
	if paste.Signs(l, s) != (wrong == api.OK && want.Neg && len(want.Atoms) == 0) {
		t.Fatalf("%+v: Signs(%q) is wrong", l.Record(), s)
	}
}

// judge holds what is read of a text against the model.
func judge(t *testing.T, l *locale.Locale, s string) api.Errno {
	t.Helper()
	var kinds []int
	for _, one := range cluster.Split(utf.Join(utf.All(s))) {
		kinds = append(kinds, modelled(l, one))
	}
	want, wrong := clipped(kinds)
	if len(s) > 4096 {
		want, wrong = paste.Clip{}, api.ErrRange
	}
	reads(t, l, s, want, wrong)
	return wrong
}

// clip is the clip that has a text.
func clip(text string) paste.Clip {
	rest, neg := strings.CutPrefix(text, "-")
	c := paste.Clip{Neg: neg}
	for _, b := range []byte(rest) {
		if b == '.' {
			c.Atoms = append(c.Atoms, 10)
		} else {
			c.Atoms = append(c.Atoms, int(b-'0'))
		}
	}
	return c
}

// What the other tests are held against is what is written by hand.
func TestModel(t *testing.T) {
	for _, x := range []struct {
		kinds []int
		text  string
		err   api.Errno
	}{
		{nil, "", api.ErrNone}, {[]int{11, 11}, "", api.ErrNone}, {[]int{12}, "-", api.OK}, {[]int{12, 10, 11, 7}, "-.7", api.OK}, {[]int{7, 11, 12, 11}, "-7", api.OK},
		{[]int{12, 12}, "", api.ErrSign}, {[]int{7, 12, 7}, "", api.ErrSign}, {[]int{12, 7, 12}, "", api.ErrSign}, {[]int{10, 12, 10}, "", api.ErrSign},
		{[]int{10, 10}, "", api.ErrTwice}, {[]int{10, 10, -1}, "", api.ErrTwice}, {[]int{-1, 10, 10}, "", api.ErrForm}, {[]int{11, 12, 11, 7}, "-7", api.OK},
	} {
		c, err := clipped(x.kinds)
		if err != x.err || paste.Text(c) != x.text {
			t.Error(x.kinds, c, err)
		}
	}
}

// P18.1: the document's example.
func TestExample(t *testing.T) {
	c, err := paste.Read(named(t, "de-DE"), "- 1.234,50 \u20ac")
	if err != api.OK || !c.Neg || !slices.Equal(c.Atoms, []int{1, 2, 3, 4, 10, 5, 0}) {
		t.Error(c, err)
	}
}

// P18.1: what clusters are, by hand: each row, and the first of those that fit.
func TestKind(t *testing.T) {
	us, german, french, egyptian, estonian := named(t, "en-US"), named(t, "de-DE"), named(t, "fr-FR"), named(t, "ar-EG"), named(t, "et-EE")
	for _, x := range []struct {
		l    *locale.Locale
		one  string
		want int
	}{
		{us, "0", 0}, {us, "9", 9}, {us, ".", 10}, {us, ",", 11}, {us, "-", 12}, {us, "\u2212", 12}, {us, "$", 11}, {us, "\u20ac", -1},
		{us, "\u0663", 3}, {us, "\u06f9", 9}, {us, "\uff10", 0}, {us, "\U0001d7ec", 0}, {us, "\U0001d7f5", 9}, {us, "\U0001d7f6", -1}, {us, "\u0f29", 9}, {us, "\u00b2", -1},
		{us, " ", 11}, {us, "\t", 11}, {us, "\n", 11}, {us, "\v", 11}, {us, "\f", 11}, {us, "\r", 11}, {us, "\r\n", 11}, {us, "\u00a0", 11}, {us, "\u2009", 11}, {us, "\u202f", 11},
		{us, "\u2007", -1}, {us, "\u3000", -1}, {us, "\u0085", -1}, {us, "\u200b", -1}, {us, "\x00", -1}, {us, " \u0301", 11}, {us, "\u00a0\u200d", 11},
		{us, "1\u0301", -1}, {us, "\u0663\u0301", -1}, {us, ".\u0301", -1}, {us, "-\u0301", -1}, {us, "\u2212\u20dd", -1}, {us, ",\u0301", -1}, {us, "$\u0301", -1}, {us, "\u06001", -1}, {us, "\u0301", -1},
		{us, "+", -1}, {us, "e", -1}, {us, "'", -1}, {us, "\u066b", -1}, {us, "\u066c", -1}, {us, "\u2010", -1}, {us, "\u2013", -1}, {us, "\ufe63", -1}, {us, "\uff0d", -1}, {us, "\uff0e", -1}, {us, "\u00a4", -1}, {us, "%", -1},
		{german, ".", 11}, {german, ",", 10}, {german, "-", 12}, {german, "\u2212", 12}, {german, "\u20ac", 11}, {german, "\u00a0", 11}, {german, "$", -1},
		{french, ".", 10}, {french, ",", 10}, {french, "\u202f", 11}, {french, " ", 11},
		{egyptian, "\u0661", 1}, {egyptian, "1", 1}, {egyptian, "\u066b", 10}, {egyptian, ".", 10}, {egyptian, "\u066c", 11}, {egyptian, ",", -1}, {egyptian, "E", 11}, {egyptian, "G", 11}, {egyptian, "P", 11}, {egyptian, "e", -1}, {egyptian, "\u066a", -1},
		{estonian, "\u2212", 12}, {estonian, "-", 12}, {named(t, "sl-SI"), "%", 11}, {named(t, "bg-BG"), " ", 11}, {named(t, "bg-BG"), ",", 10}, {named(t, "bg-BG"), ".", 10}, {named(t, "bg-BG"), "B", 11},
		{odd(t, minusAsPoint), "-", 10}, {odd(t, minusAsPoint), ".", 11}, {odd(t, minusAsPoint), "\u2212", 12},
		{odd(t, pointAsSign), "\u2212", 10}, {odd(t, pointAsSign), "-", 11}, {odd(t, pointAsSign), ".", 12},
		{odd(t, blanks), " ", 10}, {odd(t, blanks), "\u00a0", 11}, {odd(t, blanks), "\u202f", 11}, {odd(t, blanks), "n", 12}, {odd(t, blanks), ".", 10}, {odd(t, blanks), " \u0301", 11},
		{odd(t, digits), "5", 10}, {odd(t, digits), "\u0665", 5}, {odd(t, digits), "4", 4}, {odd(t, digits), "\u06f7", 11}, {odd(t, digits), "7", 7}, {odd(t, digits), "\uff13", 12}, {odd(t, digits), "3", 3},
		{odd(t, spoiltPoint), "\ufffd", 10}, {odd(t, spoiltGroup), "\ufffd", 11}, {odd(t, spoiltSign), "\ufffd", 12}, {odd(t, spoiltAffix), "\ufffd", 11}, {us, "\ufffd", -1},
		{odd(t, marked), "x\u0323", 10}, {odd(t, marked), "x", -1}, {odd(t, marked), "g\u0301\u0304", 11}, {odd(t, marked), "g\u0301", -1}, {odd(t, marked), "m\u0304", 12}, {odd(t, marked), "e\u0301", 11}, {odd(t, marked), "e", -1}, {odd(t, marked), "R\u0301", 11}, {odd(t, marked), "s", 11}, {odd(t, marked), "%", 11},
		{odd(t, hanging), "a", 11}, {odd(t, hanging), "-", 12}, {odd(t, hanging), "\u2212", 12}, {odd(t, hanging), "(", 11}, {odd(t, hanging), ")", 11},
		{odd(t, dotted), ".", 10}, {odd(t, dotted), "b", 11}, {odd(t, dashed), "\u2212", 12}, {odd(t, dashed), "x", 11}, {odd(t, arabic), "\u0664", 4}, {odd(t, arabic), "k", 11}, {odd(t, digitMarked), "\u0660\u0301", 11}, {odd(t, digitMarked), "\u0660", 0},
	} {
		if got := paste.Kind(x.l, x.one); got != x.want || modelled(x.l, x.one) != x.want {
			t.Errorf("%+v: Kind(%q): %d, not %d", x.l.Record(), x.one, got, x.want)
		}
	}
}

// P18.1: what is not just one cluster is nothing.
func TestKindOfNone(t *testing.T) {
	for _, l := range locales(t) {
		symbols := []string{l.Digit(0), l.Digit(7), "5", "\u0664", "-", "\u2212", ".", " ", "\u00a0", "\r\n", l.Record().Decimal, l.Record().Group, l.Record().Minus}
		symbols = slices.DeleteFunc(symbols, func(s string) bool { return s == "" })
		for _, a := range symbols {
			for _, b := range symbols {
				if cluster.One(a+b) || cluster.Len(a+b) != 2 {
					t.Fatalf("%q", a+b)
				}
				if k := paste.Kind(l, a+b); k != -1 {
					t.Errorf("%+v: Kind(%q): %d", l.Record(), a+b, k)
				}
			}
		}
		for _, s := range []string{"", l.Record().Currency + "$$", "12", "\n\r", " a", "\u06f1.", "\xff\xff", "1\xff", "\xff1", " \xff", "\xff", "\xd9", "\xef\xbf", "\x80"} {
			if k := paste.Kind(l, s); k != -1 {
				t.Errorf("%+v: Kind(%q): %d", l.Record(), s, k)
			}
		}
	}
}

// P18.1: what each character is, alone, to some locales.
func TestEachCharacter(t *testing.T) {
	all := []*locale.Locale{named(t, "en-US"), named(t, "ar-EG"), odd(t, digits)}
	type counts [14]int
	for _, l := range all {
		var got counts
		for c := range 1114112 {
			s := utf.Encode(c)
			if s == "" {
				continue
			}
			k := paste.Kind(l, s)
			got[k+1]++
			if c < 0x20000 && k != -1 && k != modelled(l, s) {
				t.Fatalf("%d: %d", c, k)
			}
		}
		want := counts{0, 20, 20, 20, 20, 20, 20, 20, 20, 20, 20, 1, 11, 2}
		switch l {
		case all[1]:
			want[11], want[12] = 2, 9+1+3
		case all[2]:
			// Three digits are symbols, and 46 is the separator too.
			want[6], want[8], want[4], want[11], want[12], want[13] = 19, 19, 19, 2, 10, 3
		}
		want[0] = 1114112 - 2048
		for _, n := range want[1:] {
			want[0] -= n
		}
		if got != want {
			t.Errorf("%s: %v, not %v", l.Record().Name, got, want)
		}
	}
}

// P18.1: texts that are read, and their clips, by hand.
func TestRead(t *testing.T) {
	for _, x := range []struct{ name, text, clip string }{
		{"en-US", "1", "1"}, {"en-US", "007", "007"}, {"en-US", ".", "."}, {"en-US", "1.", "1."}, {"en-US", ".5", ".5"}, {"en-US", "1,234.50", "1234.50"}, {"en-US", "1,2,,3,4,", "1234"}, {"en-US", "1.2,3", "1.23"},
		{"en-US", "-", "-"}, {"en-US", "\u2212", "-"}, {"en-US", "-$", "-"}, {"en-US", "$-", "-"}, {"en-US", " - ", "-"}, {"en-US", "-,", "-"}, {"en-US", "-1", "-1"}, {"en-US", "1-", "-1"}, {"en-US", "1 \u2212 $", "-1"}, {"en-US", "$ -1", "-1"}, {"en-US", ".-", "-."}, {"en-US", "-.", "-."}, {"en-US", "$$1$2$", "12"},
		{"en-US", "\u0661\u06f2\u09693\uff14\U0001d7f1", "123345"}, {"en-US", "\u0967\u096c.\u0e55", "16.5"}, {"en-US", "\r\n1\r\n2\t3\n", "123"}, {"en-US", "1\u00a0234\u2009567\u202f8", "12345678"}, {"en-US", "  -  1  ", "-1"},
		{"de-DE", "1.5", "15"}, {"de-DE", "1,5", "1.5"}, {"de-DE", "1.234.567,8-", "-1234567.8"}, {"de-DE", "\u20ac 5", "5"}, {"de-DE", "1.2.3.4", "1234"},
		{"fr-FR", "1.5", "1.5"}, {"fr-FR", "1,5", "1.5"}, {"fr-FR", "1 234,5\u00a0\u20ac", "1234.5"}, {"bg-BG", "1.5 BGN", "1.5"}, {"bg-BG", "GNB1B2", "12"},
		{"ar-EG", "EGP\u0661\u066c\u0662\u0663\u0664\u066b\u0665", "1234.5"}, {"ar-EG", "-EGP 12.5", "-12.5"}, {"fa-IR", "\u2212\u06f1", "-1"}, {"fa-IR", "1-", "-1"}, {"sl-SI", "12,5 %", "12.5"}, {"de-CH", "CHF-1\u2019000.05", "-1000.05"}, {"nb-NO", "kr \u22121 234,5", "-1234.5"},
	} {
		reads(t, named(t, x.name), x.text, clip(x.clip), api.OK)
	}
	for _, x := range []struct {
		record     int
		text, clip string
	}{
		{signedBehind, "1.20-", "-1.20"}, {minusAsPoint, "\u22121.234-5", "-1234.5"}, {minusAsPoint, "-", "."}, {pointAsSign, ".1-234\u22125", "-1234.5"}, {pointAsSign, "5.", "-5"}, {blanks, "n1\u00a0234 5", "-1234.5"}, {digits, "\uff13\u0661\u06f72\u06633\u06645\u0665", "-12334.5"},
		{spoiltPoint, "1\ufffd5", "1.5"}, {marked, "m\u0304R\u0301s\u0967g\u0301\u0304\u0968x\u03235e\u0301%", "-12.5"}, {hanging, "(-5)", "-5"}, {dotted, "a.b5", ".5"}, {arabic, "k\u06645", "45"}, {dashed, "x\u22125", "-5"}, {digitMarked, "\u0660\u0301z7", "7"},
	} {
		reads(t, odd(t, x.record), x.text, clip(x.clip), api.OK)
	}
}

// P18.1: texts that are not read, and the error of the cluster that is met first.
func TestNotRead(t *testing.T) {
	for name, l := range map[string]map[api.Errno][]string{
		"en-US": {
			api.ErrForm:  {"x", "1x", "x1", "\u20ac1", "1 \u20ac", "1e5", "+1", "-x", "1-x", "1-x2", "1-x-", "-x-", "1.x.", "x--", "x1.2.3", "1\u0301", ".\u0301", "-\u0301", "$\u0301", "1\u0301.1.1", "\u0301", "\u06001", "(1)", "1\u3000", "1\x00", "1'000", "%", "1\u200b2", "\u200e-1"},
			api.ErrSign:  {"--", "- -", "-\u2212", "\u2212-", "--1", "-1-", "1--", "1-2", "1-.", "1 - , 2", "1--x", "1-2x", ".-.", ".-1", "1.-.", "1.5-.", "$-$-", "-$-x", "1-2.3.4", "-.1-", "1 -\r\n\u0662", "--.."},
			api.ErrTwice: {"..", "1..", ".1.", "1.2.3", "-1.2.3", "..-", "..x", "1.2.x", "-..-", "1.2.-3", ". . .", "$.$.$"},
			api.ErrNone:  {"", " ", "$", ",", "$,", "\r\n", "\t$ ,\u00a0", "$$"},
		},
		"de-DE": {
			api.ErrForm: {"$1", "1'0", "EUR 1"}, api.ErrSign: {"-1.5-", "1-.,", "1,-,"}, api.ErrTwice: {"1,2,3", ",,", "1,234,567.8"}, api.ErrNone: {".", "\u20ac", "...", "\u00a0\u20ac."},
		},
		"fr-FR": {api.ErrTwice: {"1.234,5", "1,234.5", ".,"}, api.ErrNone: {"\u202f", "\u20ac"}},
		"ar-EG": {api.ErrForm: {"1,234", "\u066a", "egp1"}, api.ErrTwice: {"1.\u066b", "\u0661\u066b\u0662."}, api.ErrSign: {"\u0661-\u0662", "1-2"}, api.ErrNone: {"EGP", "\u066c", "PGE GEP"}},
	} {
		for err, texts := range l {
			for _, s := range texts {
				reads(t, named(t, name), s, paste.Clip{}, err)
				if judge(t, named(t, name), s) != err {
					t.Errorf("%s: %q", name, s)
				}
			}
		}
	}
}

// P18.1: every short text of clusters of each kind, by each locale.
func TestShort(t *testing.T) {
	for _, l := range locales(t) {
		of := []string{l.Digit(7), "5", l.Record().Decimal, ".", l.Record().Minus, "\u2212", " ", "?"}
		if group := l.Record().Group; group != "" {
			of = append(of, group)
		}
		seen := map[api.Errno]int{}
		eachList(of, 4, func(all []string) { seen[judge(t, l, strings.Join(all, ""))]++ })
		for _, err := range []api.Errno{api.OK, api.ErrForm, api.ErrSign, api.ErrTwice, api.ErrNone} {
			if seen[err] < 1 {
				t.Error(l.Record(), seen)
			}
		}
	}
}

// P18.1: longer ones, of one locale.
func TestLonger(t *testing.T) {
	l := named(t, "en-US")
	eachList([]string{"1", ".", "-", ",", "x"}, 7, func(all []string) { judge(t, l, strings.Join(all, "")) })
}

// P18.1: a spoilt byte counts as the character 65533, whatever that is to the locale.
func TestSpoilt(t *testing.T) {
	us := named(t, "en-US")
	for _, s := range []string{"\xff", "1\xff", "\xff1", "1\xff2", "1\x80", "\xe2\x88", "\xe2\x881", "-\xc2", "1\xc2", "\xc0\xb1", "\xed\xa0\x80", "1\xf4\x90\x80\x80", "1\xe2\x80"} {
		reads(t, us, s, paste.Clip{}, api.ErrForm)
	}
	reads(t, us, "1-2\xff", paste.Clip{}, api.ErrSign)
	reads(t, us, "1.2.\xff", paste.Clip{}, api.ErrTwice)
	for _, x := range []struct {
		record     int
		text, clip string
		err        api.Errno
	}{
		{spoiltPoint, "1\xff5", "1.5", api.OK}, {spoiltPoint, "1\xe25", "1.5", api.OK}, {spoiltPoint, "\xff", ".", api.OK}, {spoiltPoint, "\xe2\x88", "", api.ErrTwice}, {spoiltPoint, "1\xff5\ufffd", "", api.ErrTwice},
		{spoiltGroup, "1\xff5", "15", api.OK}, {spoiltGroup, "\xff\xff", "", api.ErrNone}, {spoiltGroup, "1\xc2", "1", api.OK},
		{spoiltSign, "\xff5", "-5", api.OK}, {spoiltSign, "5\xff", "-5", api.OK}, {spoiltSign, "\xff", "-", api.OK}, {spoiltSign, "\xff5\xff", "", api.ErrSign}, {spoiltSign, "5\xff5", "", api.ErrSign},
		{spoiltAffix, "\xffc5", "5", api.OK}, {spoiltAffix, "\xff\u0301", "", api.ErrForm},
	} {
		reads(t, odd(t, x.record), x.text, clip(x.clip), x.err)
	}
	for _, l := range locales(t) {
		eachList([]string{"1", "\xff", "\xe2\x88", l.Record().Minus, "\ufffd", "\u0301"}, 4, func(all []string) { judge(t, l, strings.Join(all, "")) })
	}
}

// P18.1: a text of more than 4096 bytes is not looked at; one of 4096 is, whatever its clusters are.
func TestMost(t *testing.T) {
	l := named(t, "en-US")
	for _, one := range []string{"1", "\u0661", "\u20b9", "\U0001d7ed", " ", "$", "-", ".", "x", "\xff", "\u0301", "\r\n", ","} {
		for _, n := range []int{4095, 4096, 4097, 4098, 8192, 1 << 16} {
			s := strings.Repeat(one, n/len(one)) + strings.Repeat(" ", n%len(one))
			if len(s) != n {
				t.Fatal(len(s))
			}
			if err := judge(t, l, s); (err == api.ErrRange) != (n > 4096) {
				t.Errorf("%q, %d: %v", one, n, err)
			}
		}
	}
	reads(t, l, strings.Repeat("1", 4096), clip(strings.Repeat("1", 4096)), api.OK)
	reads(t, l, strings.Repeat(" ", 4095)+"-", clip("-"), api.OK)
	reads(t, l, strings.Repeat(" ", 4096)+"-", paste.Clip{}, api.ErrRange)
	reads(t, l, "1"+strings.Repeat("\u0301", 2047)+" ", paste.Clip{}, api.ErrForm)
	// Each spoilt byte is one, though three stand for it: no more are counted.
	reads(t, odd(t, spoiltGroup), "1"+strings.Repeat("\xff", 4095), clip("1"), api.OK)
	reads(t, odd(t, spoiltGroup), "1"+strings.Repeat("\xff", 4096), paste.Clip{}, api.ErrRange)
}

// P18.2: texts that sign, and others.
func TestSigns(t *testing.T) {
	for name, x := range map[string]struct{ is, not []string }{
		"en-US": {[]string{"-", "\u2212", "-$", "$-", " - ", "-\r\n", ",-,", "$ \u2212 $"}, []string{"", " ", "$", "--", "- -", "-1", "1-", "-.", ".-", "-x", "x-", "+", "\u2013", "-\u0301", "-\xff", "\xff", "1", "."}},
		"fa-IR": {[]string{"-", "\u2212", "\u2212\u066c", "\n-"}, []string{"", "\u2212\u06f1", "\u2212\u066b", "-\u2212", "\u2212\u0301", "\u066c"}},
	} {
		for _, s := range x.is {
			if !paste.Signs(named(t, name), s) {
				t.Errorf("%s: %q", name, s)
			}
		}
		for _, s := range x.not {
			if paste.Signs(named(t, name), s) {
				t.Errorf("%s: %q", name, s)
			}
		}
	}
	if l := odd(t, pointAsSign); !paste.Signs(l, ".") || !paste.Signs(l, "-.") || paste.Signs(l, "-") || paste.Signs(l, "\u2212") {
		t.Error("a sign of its own")
	}
	l := named(t, "en-US")
	if s := strings.Repeat(" ", 4095) + "-"; !paste.Signs(l, s) || paste.Signs(l, s+" ") {
		t.Error("a long text")
	}
}

// P18.2: a clip's text.
func TestText(t *testing.T) {
	for _, x := range []struct {
		c    paste.Clip
		want string
	}{
		{paste.Clip{}, ""}, {paste.Clip{Neg: true}, "-"}, {paste.Clip{Neg: true, Atoms: []int{}}, "-"}, {paste.Clip{Atoms: []int{10}}, "."}, {paste.Clip{Neg: true, Atoms: []int{10}}, "-."},
		{paste.Clip{Atoms: []int{0, 1, 2, 3, 4, 5, 6, 7, 8, 9, 10}}, "0123456789."}, {paste.Clip{Neg: true, Atoms: []int{0, 0, 10, 1, 0}}, "-00.10"}, {paste.Clip{Atoms: []int{10, 1, 10, 10}}, ".1.."}, {paste.Clip{Atoms: []int{1, 0, 10, 0}}, "10.0"},
	} {
		if got := paste.Text(x.c); got != x.want {
			t.Errorf("%v: %q", x.c, got)
		}
	}
	long := paste.Clip{Atoms: slices.Repeat([]int{7, 10}, 1<<15)}
	if got := paste.Text(long); got != strings.Repeat("7.", 1<<15) {
		t.Error(len(got))
	}
	// Lists of which the document says nothing end, too.
	for _, a := range []int{-1, 11, 12, 1 << 62, -1 << 63} {
		paste.Text(paste.Clip{Atoms: []int{a}})
	}
}

// P18.2: a clip's text is read as that clip, where it may be.
func TestTextRead(t *testing.T) {
	l := named(t, "en-US")
	eachList([]string{"0", "5", ".", "9"}, 5, func(all []string) {
		for _, sign := range []string{"", "-"} {
			text := sign + strings.Join(all, "")
			c := clip(text)
			if got := paste.Text(c); got != text {
				t.Fatalf("%q: %q", text, got)
			}
			if points := strings.Count(text, "."); points <= 1 && text != "" {
				reads(t, l, text, c, api.OK)
			}
		}
	})
}

// P18.2: clips that are the same, and others; nil and empty are one.
func TestSame(t *testing.T) {
	all := []paste.Clip{{}, {Atoms: []int{0}}, {Atoms: []int{10}}, {Atoms: []int{0, 0}}, {Atoms: []int{1, 10}}, {Atoms: []int{10, 1}}, {Atoms: []int{1}}, {Atoms: []int{1, 10, 1}}}
	for _, c := range slices.Clone(all) {
		all = append(all, paste.Clip{Neg: true, Atoms: c.Atoms})
	}
	for i, a := range all {
		for k, b := range all {
			if b.Atoms = append(make([]int, 0, 9), b.Atoms...); paste.Same(a, b) != (i == k) || paste.Same(b, a) != (i == k) {
				t.Error(a, b)
			}
		}
	}
}

// apart tells whether a locale's affixes have none of what another row of the table names.
func apart(l *locale.Locale) bool {
	for _, neg := range []bool{false, true} {
		ahead, behind := l.Around(neg)
		for _, part := range append(ahead, behind...) {
			for _, one := range cluster.Split(part.Text) {
				c := utf.All(one)
				if _, d := system.Of(c[0]); len(c) == 1 && (d >= 0 || slices.Contains([]int{45, 46, 8722}, c[0])) {
					return false
				}
			}
		}
	}
	return true
}

// P18.3: what a locale shows of a draft is read as its sign and its atoms.
func TestShown(t *testing.T) {
	clean := 0
	for _, l := range locales(t) {
		if !apart(l) {
			continue
		}
		clean++
		eachList([]string{"0", "6", "."}, 6, func(all []string) {
			for _, neg := range []bool{false, true} {
				c := clip(strings.Join(all, ""))
				d, err := draft.Of(neg, c.Atoms...)
				if err != api.OK {
					return
				}
				if c.Neg = neg; !neg && len(c.Atoms) == 0 {
					err = api.ErrNone
				}
				reads(t, l, item.Text(item.Items(l, d)), c, err)
			}
		})
		full := clip(strings.Repeat("1234567890", 6) + "1234." + strings.Repeat("1234567890", 6) + "1234")
		for _, neg := range []bool{false, true} {
			d, _ := draft.Of(neg, full.Atoms...)
			full.Neg = neg
			reads(t, l, item.Text(item.Items(l, d)), full, api.OK)
		}
	}
	// All of the forty, and all records but those whose affixes have a digit of another system, 45, 46 or 8722.
	if clean != 40+len(records())-5 {
		t.Error(clean)
	}
}

// P18.3: what one of the forty shows is read by another one, where its symbols are this one's too, or none of them.
func TestElsewhere(t *testing.T) {
	d, _ := draft.Of(true, 1, 2, 3, 4, draft.Point, 5)
	for _, x := range []struct{ from, to, clip string }{
		{"en-US", "zh-CN", ""}, {"en-IN", "gu-IN", "-1234.5"}, {"de-DE", "es-ES", "-1234.5"}, {"fi-FI", "fr-FR", "-1234.5"}, {"fa-IR", "ar-EG", "-1234.5"}, {"hi-IN", "mr-IN", "-1234.5"}, {"pl-PL", "hu-HU", ""},
	} {
		s := item.Text(item.Items(named(t, x.from), d))
		if x.clip == "" {
			reads(t, named(t, x.to), s, paste.Clip{}, api.ErrForm)
		} else {
			reads(t, named(t, x.to), s, clip(x.clip), api.OK)
		}
	}
}

// R4, R5: what is answered is new memory, and the same asked again; what is handed in stays.
func TestAgain(t *testing.T) {
	for _, l := range locales(t) {
		before := l.Record()
		s := l.Record().Minus + l.Digit(1) + l.Digit(2) + l.Record().Decimal + l.Digit(0)
		for range 3 {
			c, err := paste.Read(l, s)
			if err != api.OK || !paste.Same(c, clip("-12.0")) {
				t.Fatal(l.Record(), c, err)
			}
			atoms := c.Atoms[:cap(c.Atoms)]
			for i := range atoms {
				atoms[i] = 77
			}
		}
		if l.Record() != before {
			t.Fatal(l.Record())
		}
	}
	c := paste.Clip{Neg: true, Atoms: append(make([]int, 0, 8), 1, 10)}
	room := c.Atoms[:8]
	if paste.Text(c) != "-1." || !paste.Same(c, c) || !slices.Equal(room, []int{1, 10, 0, 0, 0, 0, 0, 0}) {
		t.Error(room)
	}
}
