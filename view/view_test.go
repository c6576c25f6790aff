package view_test

import (
	"slices"
	"strings"
	"testing"

	"abacist/api"
	"abacist/cluster"
	"abacist/draft"
	"abacist/forty"
	"abacist/item"
	"abacist/locale"
	"abacist/view"
)

const (
	low  = -1 << 63
	high = 1<<63 - 1
)

// record is a record of a pattern, with a group's symbol or without.
func record(pattern, group string) locale.Record {
	return locale.Record{Name: "x", Pattern: pattern, System: "latn", Decimal: ".", Group: group, Minus: "-", Percent: "%", Currency: "$"}
}

// dressed is a record with symbols of several bytes, and of several characters.
func dressed(pattern, system, group string) locale.Record {
	return locale.Record{Name: "x", Pattern: pattern, System: system, Decimal: "x\u0323", Group: group, Minus: "m\u0304\u0301", Percent: "\u066a", Currency: "R\u0301s"}
}

// records is records with affixes ahead and behind, with the sign ahead of them, among them and behind them, with groups and without.
func records() []locale.Record {
	long := strings.Repeat("\u20ac", 21)
	wide := dressed("\u00a4a#,#0.00b", "mathsanb", "g"+strings.Repeat("\u0301", 7))
	wide.Decimal, wide.Minus = "d"+strings.Repeat("\u0301", 7), "m"+strings.Repeat("\u0301", 7)
	return []locale.Record{
		record("0", ""),
		record("0.00;0-", ""),
		record("#,##0.00", ","),
		record("\u00a4#,##0.00", ","),
		record("\u00a4 #,##,##0", ","),
		record("#,##0 \u00a4", "'"),
		record("<0>", ""),
		record("<0>;-0", ""),
		record("aaaa#,0bbbb;(0-)", ","),
		record("#,#0;\u00a4-<0>", ","),
		record("a#,#,##0b;c#d-\u00a4", " "),
		record("##,####,##0;0\u00a4-%x", ","),
		dressed("#,##0.##%\u00a4", "arab", "\u066c"),
		dressed("\u00a4#,##,##0.00;-\u00a4\u00a00%", "deva", "e\u0301"),
		dressed("\u00a4\u00a00", "fullwide", ""),
		record(long+"#,##0"+long+";0-", ","),
		record("#,0;"+long+"-0"+long, "\u202f"),
		wide,
	}
}

// made is the locale of a record that may be.
func made(t testing.TB, r locale.Record) *locale.Locale {
	t.Helper()
	l, err := locale.New(r)
	if err != nil {
		t.Fatalf("%+v: %v", r, err)
	}
	return l
}

// named is one of the forty locales.
func named(t testing.TB, name string) *locale.Locale {
	t.Helper()
	l, err := forty.Get(name)
	if err != api.OK {
		t.Fatal(name, err)
	}
	return l
}

// locales is the forty locales, and those of the records.
func locales(t testing.TB) []*locale.Locale {
	t.Helper()
	var all []*locale.Locale
	for _, r := range forty.All() {
		all = append(all, made(t, r))
	}
	for _, r := range records() {
		all = append(all, made(t, r))
	}
	return all
}

// typed is the draft that has a text.
func typed(text string) draft.Draft {
	rest, neg := strings.CutPrefix(text, "-")
	var atoms []int
	for _, b := range []byte(rest) {
		if b == '.' {
			atoms = append(atoms, draft.Point)
		} else {
			atoms = append(atoms, int(b-'0'))
		}
	}
	d, err := draft.Of(neg, atoms...)
	if err != api.OK || draft.Text(d) != text {
		panic(text)
	}
	return d
}

// texts is the texts of drafts: with no atom, digits alone, the separator alone, both, with the sign and without.
func texts() []string {
	var all []string
	for n := range 10 {
		digits := "905060708"[:n]
		for _, rest := range []string{"", ".", ".0", ".75", ".1234567"} {
			all = append(all, digits+rest, "-"+digits+rest)
		}
	}
	full := strings.Repeat("8", api.MaxDigits)
	return append(all, full, "-"+full, full+"."+full, "-"+full+"."+full, "."+full, "-."+full)
}

// shown is what is known of a view: its text, its stops, and each byte's tag.
type shown struct {
	text  string
	stops []int
	tags  []int
}

// marked is what a text tells that has a | at each stop, and a row of the bytes' tags.
func marked(t *testing.T, text, tags string) shown {
	t.Helper()
	var x shown
	for i, part := range strings.Split(text, "|") {
		if i > 0 {
			x.stops = append(x.stops, len(x.text))
		}
		x.text += part
	}
	for _, b := range []byte(tags) {
		x.tags = append(x.tags, int(b-'0'))
	}
	if len(x.tags) != len(x.text) {
		t.Fatalf("%q: %d tags, %d bytes", text, len(x.tags), len(x.text))
	}
	return x
}

// wanted is what the chapter says of a locale and a draft, by the draft's items.
func wanted(l *locale.Locale, d draft.Draft) shown {
	items := item.Items(l, d)
	x := shown{text: item.Text(items)}
	for _, one := range items {
		x.tags = append(x.tags, slices.Repeat([]int{one.Tag}, len(one.Text))...)
	}
	x.stops = []int{beginning(l, d, items)}
	for k := range draft.Len(d) {
		x.stops = append(x.stops, len(item.Text(items[:item.Find(items, k)+1])))
	}
	return x
}

// beginning is the stop of 0, in the chapter's words.
func beginning(l *locale.Locale, d draft.Draft, items []item.Item) int {
	if draft.Len(d) > 0 {
		return len(item.Text(items[:item.Find(items, 0)]))
	}
	ahead, _ := l.Around(d.Neg)
	n := 0
	for _, part := range ahead {
		if part.Sign {
			n += len(l.Record().Minus)
		} else {
			n += len(part.Text)
		}
	}
	return n
}

// check holds all that a view answers against what is known of it.
func check(t *testing.T, v *view.View, want shown) {
	t.Helper()
	if v.Text() != want.text || v.Len() != len(want.stops)-1 || !slices.Equal(v.Stops(), want.stops) {
		t.Fatalf("%q, %d, %v, not %q, %v", v.Text(), v.Len(), v.Stops(), want.text, want.stops)
	}
	checkStop(t, v, want)
	checkPlaces(t, v, want)
	checkSlice(t, v, want)
}

// checkStop asks the stops of all numbers, and of those beyond both ends.
func checkStop(t *testing.T, v *view.View, want shown) {
	t.Helper()
	n := len(want.stops)
	for k, at := range want.stops {
		if got, ok := v.Stop(k); got != at || !ok {
			t.Fatalf("%q: Stop(%d): %d, %t", want.text, k, got, ok)
		}
	}
	for _, k := range []int{low, low + 1, -n - 1, -n, -2, -1, n, n + 1, 2 * n, n + 1000, high - 1, high} {
		if got, ok := v.Stop(k); got != 0 || ok {
			t.Fatalf("%q: Stop(%d): %d, %t", want.text, k, got, ok)
		}
	}
}

// checkPlaces asks Atom and Tag of all places, and of those beyond both ends.
func checkPlaces(t *testing.T, v *view.View, want shown) {
	t.Helper()
	size := len(want.text)
	places := []int{low, low + 1, -size - 1, -size, size + 1000, 2*size + 4, high - 1, high}
	for off := -3; off <= size+3; off++ {
		places = append(places, off)
	}
	for _, off := range places {
		atom, tag := 0, -1
		for k, at := range want.stops {
			if at <= off {
				atom = k
			}
		}
		if off >= 0 && off < size {
			tag = want.tags[off]
		}
		if got := v.Atom(off); got != atom {
			t.Fatalf("%q: Atom(%d): %d, not %d", want.text, off, got, atom)
		}
		if got := v.Tag(off); got != tag {
			t.Fatalf("%q: Tag(%d): %d, not %d", want.text, off, got, tag)
		}
	}
}

// checkSlice asks Slice of every two numbers, and of those beyond both ends.
func checkSlice(t *testing.T, v *view.View, want shown) {
	t.Helper()
	n := len(want.stops)
	numbers := []int{low, low + 1, -n, n + 1000, high - 1, high}
	for k := -2; k <= n+1; k++ {
		numbers = append(numbers, k)
	}
	for _, i := range numbers {
		for _, j := range numbers {
			text, holds := "", i >= 0 && i <= j && j < n
			if holds {
				text = want.text[want.stops[i]:want.stops[j]]
			}
			if got, ok := v.Slice(i, j); got != text || ok != holds {
				t.Fatalf("%q: Slice(%d, %d): %q, %t, not %q", want.text, i, j, got, ok, text)
			}
		}
	}
}

// P16.1: the document's example.
func TestExample(t *testing.T) {
	v := view.New(named(t, "en-US"), typed("-1234.5"))
	if v.Text() != "-$1,234.5" || v.Len() != 6 {
		t.Error(v.Text(), v.Len())
	}
	if l := v.Stops(); !slices.Equal(l, []int{2, 3, 5, 6, 7, 8, 9}) {
		t.Error(l)
	}
}

// P16.1, P16.2: texts with their stops, and their bytes' tags, by hand, of the forty.
func TestMarked(t *testing.T) {
	for _, x := range []struct{ name, draft, text, tags string }{
		{"en-US", "", "$|", "0"},
		{"en-US", "-", "-$|", "10"},
		{"en-US", ".", "$|.|", "04"},
		{"en-US", "-.", "-$|.|", "104"},
		{"en-US", "-1234.5", "-$|1|,2|3|4|.|5|", "102322242"},
		{"en-US", "1234567", "$|1|,2|3|4|,5|6|7|", "0232223222"},
		{"en-US", ".1234", "$|.|1|2|3|4|", "042222"},
		{"en-IN", "1234567", "\u20b9|1|2|,3|4|,5|6|7|", "000" + "2232232" + "22"},
		{"de-DE", "", "|\u00a0\u20ac", "00000"},
		{"de-DE", "-", "-|\u00a0\u20ac", "100000"},
		{"de-DE", "0012.", "|0|.0|1|2|,|\u00a0\u20ac", "23222400000"},
		{"de-DE", "-1234.50", "-|1|.2|3|4|,|5|0|\u00a0\u20ac", "12322242200000"},
		{"bg-BG", "-1234567.8", "-|1|2|3|4|5|6|7|,|8|\u00a0BGN", "1222222242" + "00000"},
		{"de-CH", "-5", "CHF-|5|", "00012"},
		{"de-CH", "5", "CHF\u00a0|5|", "000002"},
		{"de-CH", "-", "CHF-|", "0001"},
		{"de-CH", "-1000", "CHF-|1|\u20190|0|0|", "00012333222"},
		{"nb-NO", "-1234", "kr\u00a0\u2212|1|\u202f2|3|4|", "0000111" + "2333222"},
		{"sl-SI", "-12.5", "\u2212|1|2|,|5|%", "11122420"},
		{"fa-IR", "", "|", ""},
		{"fa-IR", "-", "\u2212|", "111"},
		{"fa-IR", "-.7", "\u2212|\u066b|\u06f7|", "1114422"},
		{"ar-EG", "1234.5", "EGP|\u0661|\u066c\u0662|\u0663|\u0664|\u066b|\u0665|", "000" + "22" + "33" + "222222" + "44" + "22"},
		{"hi-IN", "123456", "\u20b9|\u0967|,\u0968|\u0969|,\u096a|\u096b|\u096c|", "000" + "222" + "3" + "222222" + "3" + "222222222"},
	} {
		check(t, view.New(named(t, x.name), typed(x.draft)), marked(t, x.text, x.tags))
	}
}

// P16.1, P16.2: likewise of other records: the sign behind, affixes on both sides, symbols of some characters, groups of one digit.
func TestMarkedRecords(t *testing.T) {
	all := records()
	for _, x := range []struct {
		record            int
		draft, text, tags string
	}{
		{0, "", "|", ""}, {0, "-", "-|", "1"}, {0, ".", "|.|", "4"}, {0, "1234", "|1|2|3|4|", "2222"}, {0, "-1.", "-|1|.|", "124"},
		{1, "-", "|-", "1"}, {1, "-1", "|1|-", "21"}, {1, "-.", "|.|-", "41"},
		{6, "", "<|>", "00"}, {6, "-", "-<|>", "100"}, {6, "-.5", "-<|.|5|>", "10420"},
		{7, "-3", "-|3|", "12"}, {7, "3", "<|3|>", "020"},
		{8, "", "aaaa|bbbb", "00000000"}, {8, "-", "(|-)", "010"}, {8, "-123.4", "(|1|,2|,3|.|4|-)", "0232324210"},
		{8, "123", "aaaa|1|,2|,3|bbbb", "0000232320000"},
		{9, "-123", "$-<|1|,2|3|>", "01023220"}, {9, "-", "$-<|>", "0100"},
		{10, "-1234", "c|1| 2|3|4|d-$", "023222010"}, {10, "1234", "a|1| 2|3|4|b", "0232220"},
		{11, "-12345678", "|1|,2|3|4|5|,6|7|8|$-%x", "2322223222" + "0100"},
		{13, "-12345.6", "m\u0304\u0301R\u0301s\u00a0|\u0967|\u0968|e\u0301\u0969|\u096a|\u096b|x\u0323|\u096c|\u066a",
			"11111" + "000000" + "222222" + "333" + "222222222" + "444" + "222" + "00"},
		{14, "-0.", "m\u0304\u0301R\u0301s\u00a0|\uff10|x\u0323|", "11111" + "000000" + "222" + "444"},
		{17, "123", "R\u0301sa|\U0001d7ed|g" + strings.Repeat("\u0301", 7) + "\U0001d7ee|\U0001d7ef|b", "00000" + "2222" + strings.Repeat("3", 15) + "22222222" + "0"},
	} {
		check(t, view.New(made(t, all[x.record]), typed(x.draft)), marked(t, x.text, x.tags))
	}
}

// P16.1, P16.2: by each locale, in the chapter's words.
func TestEach(t *testing.T) {
	for _, l := range locales(t) {
		for _, text := range texts() {
			d := typed(text)
			check(t, view.New(l, d), wanted(l, d))
		}
	}
}

// P16.2: an atom is at its stop, and from there on up to the next one; a slice of all atoms is what no affix has.
func TestAtomsAtStops(t *testing.T) {
	for _, l := range locales(t) {
		for _, text := range texts() {
			v := view.New(l, typed(text))
			for k, at := range v.Stops() {
				if v.Atom(at) != k || k > 0 && v.Atom(at-1) != k-1 {
					t.Fatalf("%q: %d, %d", v.Text(), k, at)
				}
			}
			first, _ := v.Stop(0)
			last, _ := v.Stop(v.Len())
			whole, ok := v.Slice(0, v.Len())
			if !ok || v.Text()[:first]+whole+v.Text()[last:] != v.Text() {
				t.Fatalf("%q: %q", v.Text(), whole)
			}
		}
	}
}

// P16.4: stops rise, each is a cluster's beginning or the text's end, none is within an affix, and none is just behind a group.
func TestWhereStopsAre(t *testing.T) {
	for _, l := range locales(t) {
		for _, text := range texts() {
			v := view.New(l, typed(text))
			begins := cluster.Starts(v.Text())
			stops := v.Stops()
			for k, at := range stops {
				if k > 0 && at <= stops[k-1] {
					t.Fatalf("%q: %v", v.Text(), stops)
				}
				if !slices.Contains(begins, at) {
					t.Fatalf("%q: %d is no cluster's beginning", v.Text(), at)
				}
				if v.Tag(at-1) == item.Group || v.Len() > 0 && around(v.Tag(at-1)) && around(v.Tag(at)) {
					t.Fatalf("%q: a stop at %d", v.Text(), at)
				}
			}
		}
	}
}

// around tells whether a tag is of what stands around a number.
func around(tag int) bool { return tag == item.Affix || tag == item.Sign }

// P16.3: bounds by hand.
func TestBound(t *testing.T) {
	all := records()
	for _, x := range []struct {
		l           *locale.Locale
		whole, rest int
		want        int
	}{
		{named(t, "en-US"), 0, 0, 3}, {named(t, "en-US"), 1, 0, 4}, {named(t, "en-US"), 0, 1, 4}, {named(t, "en-US"), 9, 2, 22},
		{named(t, "en-US"), 64, 0, 3 + 64 + 63}, {named(t, "en-US"), 0, 64, 67}, {named(t, "en-US"), 64, 64, 3 + 128 + 63},
		{named(t, "bg-BG"), 0, 0, 7}, {named(t, "bg-BG"), 1, 1, 9}, {named(t, "bg-BG"), 64, 64, 7 + 128},
		{named(t, "ar-EG"), 0, 0, 6}, {named(t, "ar-EG"), 1, 0, 8}, {named(t, "ar-EG"), 2, 3, 18}, {named(t, "ar-EG"), 64, 64, 6 + 256 + 126},
		{named(t, "de-CH"), 0, 0, 6}, {named(t, "de-CH"), 2, 0, 11}, {named(t, "fa-IR"), 0, 0, 5}, {named(t, "fa-IR"), 3, 1, 5 + 8 + 4},
		{named(t, "lo-LA"), 0, 0, 5}, {named(t, "lo-LA"), 64, 64, 5 + 384 + 63}, {named(t, "sl-SI"), 5, 2, 4 + 7 + 1 + 4},
		{named(t, "nb-NO"), 4, 2, 7 + 6 + 1 + 9}, {named(t, "de-DE"), 4, 2, 6 + 6 + 1 + 3},
		{made(t, all[0]), 0, 0, 2}, {made(t, all[0]), 64, 64, 130}, {made(t, all[7]), 0, 0, 3}, {made(t, all[7]), 2, 1, 6},
		{made(t, all[8]), 0, 0, 9}, {made(t, all[8]), 3, 1, 9 + 4 + 2}, {made(t, all[10]), 5, 0, 4 + 1 + 5 + 4},
		{made(t, all[15]), 1, 0, 126 + 1 + 1}, {made(t, all[16]), 2, 0, 127 + 1 + 2 + 3},
		{made(t, all[17]), 0, 0, 15 + 6 + 15}, {made(t, all[17]), 2, 1, 36 + 12 + 15}, {made(t, all[17]), 64, 64, 36 + 512 + 63*15},
	} {
		if got := view.Bound(x.l, x.whole, x.rest); got != x.want {
			t.Errorf("%+v: Bound(%d, %d): %d, not %d", x.l.Record(), x.whole, x.rest, got, x.want)
		}
	}
}

// longest is the bytes of the longest text of drafts that have just so many digits.
func longest(l *locale.Locale, whole, rest int) int {
	n := 0
	for d := range 10 {
		x := draft.Draft{Int: slices.Repeat([]int{d}, whole), Sep: true, Frac: slices.Repeat([]int{d}, rest)}
		n = max(n, len(view.New(l, x).Text()))
		x.Neg = true
		n = max(n, len(view.New(l, x).Text()))
	}
	return n
}

// P16.3, P16.4: a bound is the longest text of so many digits, with a group behind each digit but the last.
func TestBoundIsReached(t *testing.T) {
	for _, l := range locales(t) {
		primary, secondary := l.Sizes()
		for _, whole := range []int{0, 1, 2, 3, 4, 5, 6, 7, 8, 63, 64} {
			missing := 0
			if primary > 0 && whole > 0 {
				missing = whole - 1 - item.Groups(whole, primary, secondary)
			}
			for _, rest := range []int{0, 1, 2, 3, 63, 64} {
				want := longest(l, whole, rest) + missing*len(l.Record().Group)
				if got := view.Bound(l, whole, rest); got != want {
					t.Fatalf("%+v: Bound(%d, %d): %d, not %d", l.Record(), whole, rest, got, want)
				}
			}
		}
	}
}

// P16.4: no text of at most so many digits is longer.
func TestBoundHolds(t *testing.T) {
	for _, l := range locales(t) {
		for _, text := range texts() {
			d := typed(text)
			size := len(view.New(l, d).Text())
			for _, more := range [][2]int{{0, 0}, {1, 0}, {0, 1}, {3, 2}, {64 - len(d.Int), 64 - len(d.Frac)}} {
				whole, rest := min(len(d.Int)+more[0], 64), min(len(d.Frac)+more[1], 64)
				if most := view.Bound(l, whole, rest); size > most {
					t.Fatalf("%q has %d bytes: Bound(%d, %d): %d", text, size, whole, rest, most)
				}
			}
		}
	}
}

// P16.3: a bound grows by a digit with each digit behind the separator, and by a digit and a group with each one ahead of it, but the first.
func TestBoundGrows(t *testing.T) {
	for _, l := range locales(t) {
		one, group := len(l.Digit(0)), len(l.Record().Group)
		for whole := range 64 {
			for rest := range 64 {
				at := view.Bound(l, whole, rest)
				ahead := one + group
				if whole == 0 {
					ahead = one
				}
				if view.Bound(l, whole, rest+1) != at+one || view.Bound(l, whole+1, rest) != at+ahead {
					t.Fatalf("%+v: %d, %d", l.Record(), whole, rest)
				}
			}
		}
	}
}

// R4: what is handed in stays as it is, its spare room too, and is not kept.
func TestHandedIn(t *testing.T) {
	for _, l := range locales(t) {
		before := l.Record()
		whole, rest := []int{1, 2, 3, 4, 77, 77}, []int{5, 0, 77, 77}
		d := draft.Draft{Neg: true, Int: whole[:4], Sep: true, Frac: rest[:2]}
		v := view.New(l, d)
		want := wanted(l, d)
		check(t, v, want)
		if !slices.Equal(whole, []int{1, 2, 3, 4, 77, 77}) || !slices.Equal(rest, []int{5, 0, 77, 77}) {
			t.Fatal(whole, rest)
		}
		for i := range 4 {
			whole[i], rest[i] = 9, 9
		}
		check(t, v, want)
		view.Bound(l, 5, 5)
		if l.Record() != before {
			t.Fatal(l.Record())
		}
	}
}

// R4, R5: what is answered is new memory, and the same asked again.
func TestAgain(t *testing.T) {
	for _, l := range locales(t) {
		for _, text := range []string{"", "-", "1234.5", "-0012."} {
			d := typed(text)
			v := view.New(l, d)
			want := wanted(l, d)
			told := v.Stops()
			told = told[:cap(told)]
			for i := range told {
				told[i] = 1000 + i
			}
			check(t, v, want)
			check(t, view.New(l, d), want)
			none := d
			if len(d.Int) == 0 {
				none.Int, none.Frac = []int{}, []int{}
			}
			check(t, view.New(l, none), want)
		}
	}
}

// R1: what may not be, and numbers out of their range, make no call panic.
func TestOfWhatMayNotBe(t *testing.T) {
	odd := []int{0, 1, -1, 2, -3, 10, 65, low, low + 1, high, high - 1}
	for _, l := range locales(t) {
		for _, x := range odd {
			for _, d := range []draft.Draft{{Int: []int{x}}, {Frac: []int{x}}, {Neg: true, Int: []int{x, x, x, x}, Sep: true, Frac: []int{x}}} {
				v := view.New(l, d)
				for _, i := range odd {
					v.Stop(i)
					v.Atom(i)
					v.Tag(i)
					v.Slice(0, i)
					v.Slice(i, v.Len())
				}
			}
			for _, y := range odd {
				view.Bound(l, x, y)
			}
		}
	}
}

// R1: long drafts are looked at soon, at each place.
func TestLong(t *testing.T) {
	const n = 1 << 16
	digits := strings.Repeat("1", n)
	v := view.New(named(t, "en-IN"), typed("-"+digits+"."+digits))
	// The sign and the currency's; behind the last three digits ahead of the separator two and two.
	point := 4 + n + (n-2)/2
	if at, ok := v.Stop(n); at != point || !ok || v.Len() != 2*n+1 || len(v.Text()) != point+1+n {
		t.Error(at, v.Len())
	}
	for off := range len(v.Text()) {
		k := v.Atom(off)
		at, _ := v.Stop(k)
		next, more := v.Stop(k + 1)
		if off >= 4 && at > off || more && next <= off {
			t.Fatal(off, k, at, next)
		}
		if (v.Tag(off) == item.Decimal) != (off == point) {
			t.Fatal(off, v.Tag(off))
		}
	}
}
