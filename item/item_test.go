package item_test

import (
	"slices"
	"strconv"
	"strings"
	"testing"

	"abacist/api"
	"abacist/draft"
	"abacist/forty"
	"abacist/item"
	"abacist/locale"
)

const (
	low  = -1 << 63
	high = 1<<63 - 1
)

// place is a record, and what is known of it by hand: what stands around its numbers, its digits, and how it groups.
// Ahead and behind, a text is told by its own, and the sign by "\x00".
type place struct {
	record             locale.Record
	digits             string
	primary, secondary int
	ahead, behind      []string // of a number that is not negative
	before, after      []string // of a negative one
}

const (
	latn = "0123456789"
	deva = "\u0966\u0967\u0968\u0969\u096a\u096b\u096c\u096d\u096e\u096f"
	arab = "\u0660\u0661\u0662\u0663\u0664\u0665\u0666\u0667\u0668\u0669"
)

// record is a record of a pattern, with a group's symbol or without.
func record(pattern, group string) locale.Record {
	return locale.Record{Name: "x", Pattern: pattern, System: "latn", Decimal: ".", Group: group, Minus: "-", Percent: "%", Currency: "$"}
}

// with is a record with other symbols.
func with(r locale.Record, system, decimal, minus, percent, currency string) locale.Record {
	r.System, r.Decimal, r.Minus, r.Percent, r.Currency = system, decimal, minus, percent, currency
	return r
}

func list(l ...string) []string { return l }

// places is locales with affixes ahead and behind, with the sign ahead of them, among them and behind them, with groups and without.
func places() []place {
	return []place{
		{record("0", ""), latn, 0, 0, nil, nil, list("\x00"), nil},
		{record("#,##0.00", ","), latn, 3, 3, nil, nil, list("\x00"), nil},
		{record("\u00a4#,##0.00", ","), latn, 3, 3, list("$"), nil, list("\x00", "$"), nil},
		{record("\u00a4 #,##,##0", ","), latn, 3, 2, list("$ "), nil, list("\x00", "$ "), nil},
		{record("#,##0 \u00a4", "'"), latn, 3, 3, nil, list(" $"), list("\x00"), list(" $")},
		{record("<0>", ""), latn, 0, 0, list("<"), list(">"), list("\x00", "<"), list(">")},
		{record("#,#0;0-", ","), latn, 2, 2, nil, nil, nil, list("\x00")},
		{record("#,0;(0-)", ","), latn, 1, 1, nil, nil, list("("), list("\x00", ")")},
		{record("a#,#,##0b;c-\u00a4#d", ","), latn, 3, 1, list("a"), list("b"), list("c", "\x00", "$"), list("d")},
		{record("0;0 \u00a4-%", ""), latn, 0, 0, nil, nil, nil, list(" $", "\x00", "%")},
		{record("##,####,##0;\u00a4%-0x", " "), latn, 3, 4, nil, nil, list("$%", "\x00"), list("x")},
		{with(record("#,##0.##%\u00a4", "\u066c"), "arab", "\u066b", "\u2212", "\u066a", "EGP"), arab, 3, 3, nil, list("\u066aEGP"), list("\x00"), list("\u066aEGP")},
		{with(record("\u00a4#,##,##0.00", "e\u0301"), "deva", "x\u0323", "m\u0304", "%", "R\u0301s"), deva, 3, 2, list("R\u0301s"), nil, list("\x00", "R\u0301s"), nil},
	}
}

// made is the locale of a record that may be.
func made(t testing.TB, r locale.Record) *locale.Locale {
	t.Helper()
	l, err := locale.New(r)
	if err != nil {
		t.Fatalf("%+v: %v", r, err)
	}
	return l
}

// The model: a draft is its text, and groups are cut off from its end.

// draftOf is the draft that has a text.
func draftOf(text string) draft.Draft {
	digits := func(text string) []int {
		var l []int
		for _, b := range []byte(text) {
			l = append(l, int(b)-48)
		}
		return l
	}
	text, neg := strings.CutPrefix(text, "-")
	whole, rest, sep := strings.Cut(text, ".")
	return draft.Draft{Neg: neg, Int: digits(whole), Sep: sep, Frac: digits(rest)}
}

// grouped is digits with a comma where a group ends.
func grouped(digits string, primary, secondary int) string {
	size, tail := primary, ""
	for size > 0 && len(digits) > size {
		tail = "," + digits[len(digits)-size:] + tail
		digits = digits[:len(digits)-size]
		size = secondary
	}
	return digits + tail
}

// around is the items of what is known to stand ahead or behind.
func around(p place, parts []string) []item.Item {
	var all []item.Item
	for _, one := range parts {
		if one == "\x00" {
			all = append(all, item.Item{Tag: 1, Text: p.record.Minus, Atom: -1})
		} else {
			all = append(all, item.Item{Tag: 0, Text: one, Atom: -1})
		}
	}
	return all
}

// wanted is the items of a draft's text.
func wanted(p place, text string) []item.Item {
	ahead, behind := p.ahead, p.behind
	text, neg := strings.CutPrefix(text, "-")
	if neg {
		ahead, behind = p.before, p.after
	}
	whole, rest, sep := strings.Cut(text, ".")
	shown := grouped(whole, p.primary, p.secondary)
	if sep {
		shown += "." + rest
	}
	all, atom := around(p, ahead), 0
	for _, b := range []byte(shown) {
		switch b {
		case ',':
			all = append(all, item.Item{Tag: 3, Text: p.record.Group, Atom: -1})
			continue
		case '.':
			all = append(all, item.Item{Tag: 4, Text: p.record.Decimal, Atom: atom})
		default:
			all = append(all, item.Item{Tag: 2, Text: digitOf(p, int(b)-48), Atom: atom})
		}
		atom++
	}
	return append(all, around(p, behind)...)
}

// digitOf is a place's digit. Its digits have as many bytes as one another.
func digitOf(p place, d int) string {
	size := len(p.digits) / 10
	return p.digits[d*size : (d+1)*size]
}

// eachText tells every text of up to so many of these bytes.
func eachText(of string, most int, tell func(text string)) {
	var longer func(text string)
	longer = func(text string) {
		tell(text)
		if len(text) == most {
			return
		}
		for _, b := range []byte(of) {
			longer(text + string(b))
		}
	}
	longer("")
}

// drafts is the texts of all drafts of up to so many atoms, and of some longer ones, with the sign and without.
func drafts(most int) []string {
	var l []string
	add := func(text string) {
		if strings.Count(text, ".") <= 1 {
			l = append(l, text, "-"+text)
		}
	}
	eachText("07.", most, add)
	for n := range 16 {
		digits := "1234567890123456"[:n]
		for _, text := range []string{"", ".", ".5", ".00", ".1234567890"} {
			add(digits + text)
		}
	}
	return l
}

// checkEnds holds Ends against what is known.
func checkEnds(t *testing.T, left, primary, secondary int, want bool) {
	t.Helper()
	if got := item.Ends(left, primary, secondary); got != want {
		t.Fatalf("Ends(%d, %d, %d): %t", left, primary, secondary, got)
	}
}

// checkGroups holds Groups against what is known.
func checkGroups(t *testing.T, n, primary, secondary, want int) {
	t.Helper()
	if got := item.Groups(n, primary, secondary); got != want {
		t.Fatalf("Groups(%d, %d, %d): %d, not %d", n, primary, secondary, got, want)
	}
}

// What the other tests go through is whole, and the model shows what the chapter shows.
func TestModel(t *testing.T) {
	told := map[string]int{}
	for _, text := range drafts(3) {
		told[text]++
	}
	// Of three signs up to three: 40 texts, 8 with two points or more; 80 longer ones, 3 of them are short.
	if told["-07."] != 1 || told[".."] != 0 || len(told) != 2*(40-8+80-3) {
		t.Error(len(told))
	}
	for _, x := range []struct {
		digits             string
		primary, secondary int
		want               string
	}{{"1234567", 3, 2, "12,34,567"}, {"1234567", 3, 3, "1,234,567"}, {"123", 3, 3, "123"}, {"123456", 3, 3, "123,456"}, {"123456", 3, 0, "123,456"},
		{"1234567", 3, 0, "1234,567"}, {"123", 0, 0, "123"}, {"123", 0, 2, "123"}, {"", 3, 3, ""}, {"123", 1, 1, "1,2,3"}} {
		if s := grouped(x.digits, x.primary, x.secondary); s != x.want {
			t.Error(x, s)
		}
	}
	for _, p := range places() {
		if len(p.digits)%10 != 0 || digitOf(p, 0)+digitOf(p, 9) != p.digits[:len(p.digits)/10]+p.digits[len(p.digits)/10*9:] {
			t.Error(p)
		}
	}
}

func TestExamples(t *testing.T) {
	if n := item.Groups(7, 3, 2); n != 2 {
		t.Error(n)
	}
	for _, x := range []struct{ name, text, want string }{
		{"en-IN", "1234567", "\u20b912,34,567"},
		{"de-DE", "0012.", "0.012,\u00a0\u20ac"},
		{"de-DE", "-1234.50", "-1.234,50\u00a0\u20ac"},
		{"en-US", "-1234.5", "-$1,234.5"},
		{"en-US", "01234.50", "$01,234.50"},
		{"en-US", "", "$"}, {"en-US", "-", "-$"}, {"en-US", "-.", "-$."},
		{"bg-BG", "1234567.80", "1234567,80\u00a0BGN"},
		{"de-CH", "-1234.05", "CHF-1\u2019234.05"},
		{"nl-NL", "-1234567", "\u20ac\u00a0-1.234.567"},
		{"nb-NO", "-1234", "kr\u00a0\u22121\u202f234"},
		{"sl-SI", "-1234.5", "\u22121.234,5%"},
		{"hi-IN", "1234567.89", "\u20b9\u0967\u0968,\u0969\u096a,\u096b\u096c\u096d.\u096e\u096f"},
		{"ar-EG", "-1234.5", "-EGP\u0661\u066c\u0662\u0663\u0664\u066b\u0665"},
		{"fa-IR", "-90", "\u2212\u06f9\u06f0"},
	} {
		l, err := forty.Get(x.name)
		if err != api.OK {
			t.Fatal(x.name, err)
		}
		if s := item.Text(item.Items(l, draftOf(x.text))); s != x.want {
			t.Errorf("%s shows %s: %q", x.name, x.text, s)
		}
	}
	if item.Affix != 0 || item.Sign != 1 || item.Digit != 2 || item.Group != 3 || item.Decimal != 4 {
		t.Error("tags")
	}
}

// P15.1: an item's tag, text and atom, in their row.
func TestItems(t *testing.T) {
	brackets := made(t, record("a#,##0.00 \u00a4;(\u00a4#,##0-)", ","))
	bare := made(t, record("0", ""))
	for _, x := range []struct {
		l    *locale.Locale
		d    draft.Draft
		want []item.Item
	}{
		{brackets, draft.Draft{Int: []int{1, 2, 3, 4}, Sep: true, Frac: []int{5}}, []item.Item{{item.Affix, "a", -1}, {item.Digit, "1", 0},
			{item.Group, ",", -1}, {item.Digit, "2", 1}, {item.Digit, "3", 2}, {item.Digit, "4", 3}, {item.Decimal, ".", 4}, {item.Digit, "5", 5}, {item.Affix, " $", -1}}},
		{brackets, draft.Draft{Neg: true, Int: []int{0, 0, 0, 7}}, []item.Item{{item.Affix, "($", -1}, {item.Digit, "0", 0}, {item.Group, ",", -1},
			{item.Digit, "0", 1}, {item.Digit, "0", 2}, {item.Digit, "7", 3}, {item.Sign, "-", -1}, {item.Affix, ")", -1}}},
		{brackets, draft.Draft{Neg: true, Sep: true, Frac: []int{0, 9}}, []item.Item{{item.Affix, "($", -1}, {item.Decimal, ".", 0},
			{item.Digit, "0", 1}, {item.Digit, "9", 2}, {item.Sign, "-", -1}, {item.Affix, ")", -1}}},
		{brackets, draft.Draft{}, []item.Item{{item.Affix, "a", -1}, {item.Affix, " $", -1}}},
		{brackets, draft.Draft{Neg: true}, []item.Item{{item.Affix, "($", -1}, {item.Sign, "-", -1}, {item.Affix, ")", -1}}},
		{brackets, draft.Draft{Int: []int{}, Sep: true, Frac: []int{}}, []item.Item{{item.Affix, "a", -1}, {item.Decimal, ".", 0}, {item.Affix, " $", -1}}},
		{bare, draft.Draft{}, nil},
		{bare, draft.Draft{Int: []int{}, Frac: []int{}}, nil},
		{bare, draft.Draft{Neg: true}, []item.Item{{item.Sign, "-", -1}}},
		{bare, draft.Draft{Sep: true}, []item.Item{{item.Decimal, ".", 0}}},
		{bare, draft.Draft{Neg: true, Int: []int{8}, Sep: true}, []item.Item{{item.Sign, "-", -1}, {item.Digit, "8", 0}, {item.Decimal, ".", 1}}},
		{bare, draft.Draft{Int: []int{1, 2, 3, 4, 5}}, []item.Item{{item.Digit, "1", 0}, {item.Digit, "2", 1}, {item.Digit, "3", 2}, {item.Digit, "4", 3}, {item.Digit, "5", 4}}},
	} {
		if got := item.Items(x.l, x.d); !slices.Equal(got, x.want) {
			t.Errorf("%v: %v", x.d, got)
		}
	}
}

// P15.1: every short draft, by each place.
func TestItemsEach(t *testing.T) {
	for _, p := range places() {
		l := made(t, p.record)
		for _, text := range drafts(5) {
			want := wanted(p, text)
			got := item.Items(l, draftOf(text))
			if !slices.Equal(got, want) {
				t.Fatalf("%s by %+v: %v, not %v", text, p.record, got, want)
			}
			checkLists(t, got)
		}
		for d := range 10 {
			text := strconv.Itoa(d)
			for _, text := range []string{text, "-" + text, "." + text, text + text + text + text + "." + text} {
				if got := item.Items(l, draftOf(text)); !slices.Equal(got, wanted(p, text)) {
					t.Errorf("%s by %+v: %v", text, p.record, got)
				}
			}
		}
	}
}

// checkLists holds Text, Tags and Find of a list against the list, item by item.
func checkLists(t *testing.T, l []item.Item) {
	t.Helper()
	text, tags, first := "", []int(nil), map[int]int{}
	for i, one := range l {
		text += one.Text
		tags = append(tags, one.Tag)
		if _, ok := first[one.Atom]; !ok {
			first[one.Atom] = i
		}
	}
	if s := item.Text(l); s != text {
		t.Fatalf("Text(%v): %q", l, s)
	}
	if got := item.Tags(l); !slices.Equal(got, tags) {
		t.Fatalf("Tags(%v): %v", l, got)
	}
	for atom := -3; atom < len(l)+3; atom++ {
		want, ok := first[atom]
		if !ok {
			want = -1
		}
		if got := item.Find(l, atom); got != want {
			t.Fatalf("Find(%v, %d): %d", l, atom, got)
		}
	}
}

// P15.1: lists with none, one and many items; they need be no draft's.
func TestLists(t *testing.T) {
	for _, l := range [][]item.Item{nil, {}, {{}}, {{item.Digit, "1", 0}}, {{item.Affix, "", -1}}, {{item.Group, ",", 5}},
		{{item.Digit, "a", 2}, {item.Digit, "b", 1}, {item.Digit, "c", 2}, {item.Digit, "d", 0}, {item.Affix, "e", -1}, {item.Sign, "f", -1}},
		{{9, "\xff", -2}, {-1, "", 3}, {4, "\u20ac\x00", 3}}} {
		checkLists(t, l)
	}
	one := []item.Item{{item.Digit, "1", 7}, {item.Affix, "x", low}, {item.Group, ",", high}}
	for i, atom := range []int{7, low, high} {
		if got := item.Find(one, atom); got != i {
			t.Errorf("Find(%d): %d", atom, got)
		}
	}
	for _, atom := range []int{-1, 0, 1, 6, 8, low + 1, high - 1} {
		if got := item.Find(one, atom); got != -1 {
			t.Errorf("Find(%d): %d", atom, got)
		}
	}
	if item.Find(nil, -1) != -1 || item.Find(nil, 0) != -1 || item.Text(nil) != "" || len(item.Tags(nil)) != 0 {
		t.Error("no items")
	}
	if s := item.Text(one); s != "1x," {
		t.Error(s)
	}
	if l := item.Tags(one); !slices.Equal(l, []int{item.Digit, item.Affix, item.Group}) {
		t.Error(l)
	}
}

// eachSizes tells all sizes that groups may have.
func eachSizes(tell func(primary, secondary int)) {
	for primary := range 65 {
		for secondary := range 65 {
			tell(primary, secondary)
		}
	}
}

// P15.2: no group ends where no digit is behind, and none at Primary 0.
func TestNoEnds(t *testing.T) {
	eachSizes(func(primary, secondary int) {
		for left := -130; left <= 0; left++ {
			checkEnds(t, left, primary, secondary, false)
		}
		for _, left := range []int{-1000, low, low + 1, low + primary, low + secondary, primary - high, -high} {
			checkEnds(t, left, primary, secondary, false)
		}
		for _, left := range []int{1, 2, 3, 63, 64, 65, secondary, 2 * secondary, 999, 1000, high - 1, high} {
			checkEnds(t, left, 0, secondary, false)
		}
	})
}

// P15.2: a group ends at Primary, and at each Secondary behind it, but not around these.
func TestEnds(t *testing.T) {
	for _, x := range []struct {
		primary, secondary int
		at                 []int
	}{
		{3, 3, []int{3, 6, 9, 12, 15}}, {3, 2, []int{3, 5, 7, 9, 11, 13, 15}}, {3, 0, []int{3}}, {1, 0, []int{1}}, {64, 0, nil}, {15, 0, []int{15}},
		{1, 1, []int{1, 2, 3, 4, 5, 6, 7, 8, 9, 10, 11, 12, 13, 14, 15}}, {2, 3, []int{2, 5, 8, 11, 14}}, {4, 4, []int{4, 8, 12}}, {1, 64, []int{1}},
		{3, 4, []int{3, 7, 11, 15}}, {6, 2, []int{6, 8, 10, 12, 14}}, {4, 1, []int{4, 5, 6, 7, 8, 9, 10, 11, 12, 13, 14, 15}}, {0, 3, nil}, {0, 0, nil},
	} {
		for left := -15; left <= 15; left++ {
			checkEnds(t, left, x.primary, x.secondary, slices.Contains(x.at, left))
		}
	}
	checkEnds(t, high, 1, 1, true)
	checkEnds(t, high, 1, 2, true)
	checkEnds(t, high-1, 1, 2, false)
	checkEnds(t, high, 64, 0, false)
}

// P15.2: of all sizes, and numbers of digits up to 1000 and beyond.
func TestEndsEach(t *testing.T) {
	eachSizes(func(primary, secondary int) {
		next := primary
		for left := 1; left <= 1100; left++ {
			want := left == next
			checkEnds(t, left, primary, secondary, want)
			if want {
				next += secondary
			}
		}
	})
}

// P15.2: so many groups as end among the digits; none ends behind the last digit, or ahead of the first.
func TestGroups(t *testing.T) {
	for _, x := range [][4]int{{0, 3, 2, 0}, {1, 3, 2, 0}, {3, 3, 2, 0}, {4, 3, 2, 1}, {5, 3, 2, 1}, {6, 3, 2, 2}, {7, 3, 2, 2}, {8, 3, 2, 3},
		{3, 3, 3, 0}, {4, 3, 3, 1}, {6, 3, 3, 1}, {7, 3, 3, 2}, {2, 1, 0, 1}, {1, 1, 0, 0}, {1000, 3, 0, 1}, {1000, 0, 0, 0}, {1000, 0, 3, 0},
		{1000, 1, 1, 999}, {1000, 3, 3, 333}, {1000, 3, 2, 499}, {999, 3, 3, 332}, {1000, 64, 64, 15}, {64, 64, 64, 0}, {65, 64, 64, 1}, {128, 64, 64, 1}, {129, 64, 64, 2}} {
		checkGroups(t, x[0], x[1], x[2], x[3])
	}
	eachSizes(func(primary, secondary int) {
		for _, n := range []int{0, -1, -2, -3, -64, -1000, -primary, -secondary, low, low + 1, low + primary, -high} {
			checkGroups(t, n, primary, secondary, 0)
		}
		ends := 0
		for n := 1; n <= 1000; n++ {
			// Where a digit more is, one may end with all others but the first behind.
			if item.Ends(n-1, primary, secondary) {
				ends++
			}
			checkGroups(t, n, primary, secondary, ends)
		}
	})
}

// P15.2: the model's groups, and those among a draft's items.
func TestGroupsShown(t *testing.T) {
	digits := strings.Repeat("1", 1000)
	for _, n := range []int{0, 1, 2, 3, 4, 5, 63, 64, 65, 66, 127, 128, 129, 999, 1000} {
		eachSizes(func(primary, secondary int) {
			checkGroups(t, n, primary, secondary, strings.Count(grouped(digits[:n], primary, secondary), ","))
		})
		for _, p := range places() {
			tags := item.Tags(item.Items(made(t, p.record), draftOf(digits[:n]+"."+digits[:n])))
			got := 0
			for _, tag := range tags {
				if tag == item.Group {
					got++
				}
			}
			checkGroups(t, n, p.primary, p.secondary, got)
		}
	}
}

// eachPlace tells the forty locales, and those of the places.
func eachPlace(t *testing.T, tell func(l *locale.Locale)) {
	t.Helper()
	for _, r := range forty.All() {
		tell(made(t, r))
	}
	for _, p := range places() {
		tell(made(t, p.record))
	}
}

// P15.3: without affixes, sign and groups the items are the draft's atoms, in their row.
func TestAtomsAreLeft(t *testing.T) {
	eachPlace(t, func(l *locale.Locale) {
		for _, text := range drafts(4) {
			d := draftOf(text)
			all := item.Items(l, d)
			atoms := []int{}
			for i, one := range all {
				if one.Tag != item.Digit && one.Tag != item.Decimal {
					if one.Atom != -1 {
						t.Fatalf("%s: %v", text, one)
					}
					continue
				}
				if one.Atom != len(atoms) || item.Find(all, one.Atom) != i {
					t.Fatalf("%s: %v, %d", text, one, i)
				}
				atoms = append(atoms, l.Sign(one.Text))
			}
			if !slices.Equal(atoms, draft.Atoms(d)) || item.Find(all, len(atoms)) != -1 {
				t.Fatalf("%s: %v", text, atoms)
			}
		}
	})
}

// P15.3: no group ends ahead of the first digit, or behind the last one: each stands between two of them.
func TestGroupsStandBetween(t *testing.T) {
	eachPlace(t, func(l *locale.Locale) {
		for n := range 70 {
			for _, tail := range []string{"", ".", ".12345678"} {
				tags := item.Tags(item.Items(l, draftOf(strings.Repeat("0", n)+tail)))
				for i, tag := range tags {
					if tag == item.Group && (i == 0 || i == len(tags)-1 || tags[i-1] != item.Digit || tags[i+1] != item.Digit) {
						t.Fatalf("%d digits, %s: %v", n, tail, tags)
					}
				}
			}
		}
	})
}

// roomy is a list with spare room behind it, and that room.
func roomy[T any](l []T, spare T) ([]T, []T) {
	all := append(slices.Clone(l), spare, spare, spare, spare)
	return all[:len(l)], all[len(l):]
}

// R4: what is handed in stays as it is, its spare room too.
func TestHandedIn(t *testing.T) {
	l := made(t, record("a#,##0b", ","))
	whole, ahead := roomy([]int{1, 2, 3, 4}, 77)
	rest, behind := roomy([]int{5, 0}, 77)
	d := draft.Draft{Neg: true, Int: whole, Sep: true, Frac: rest}
	spare := item.Item{Tag: 9, Text: "x", Atom: 77}
	items, room := roomy(item.Items(l, d), spare)
	want := slices.Clone(items)
	item.Text(items)
	item.Tags(items)
	item.Find(items, 3)
	item.Find(items[:2], 77)
	if draft.Text(d) != "-1234.50" || !slices.Equal(items, want) {
		t.Error(d, items)
	}
	for _, n := range slices.Concat(ahead, behind) {
		if n != 77 {
			t.Error(ahead, behind)
		}
	}
	for _, one := range room {
		if one != spare {
			t.Error(room)
		}
	}
}

// R4, R5: what is answered is new memory, and the same asked again, whatever was answered ahead.
func TestAgain(t *testing.T) {
	for _, p := range places() {
		l := made(t, p.record)
		for _, text := range drafts(2) {
			d := draftOf(text)
			first := item.Items(l, d)
			tags := item.Tags(first)
			spoilt := first[:cap(first)]
			for i := range spoilt {
				spoilt[i] = item.Item{Tag: 9, Text: "x", Atom: 99}
			}
			again := item.Items(l, d)
			if !slices.Equal(again, wanted(p, text)) || draft.Text(d) != text {
				t.Fatalf("%s by %+v: %v", text, p.record, again)
			}
			if !slices.Equal(tags, item.Tags(again)) {
				t.Fatalf("%s by %+v: %v", text, p.record, tags)
			}
			for i := range tags {
				tags[i] = 9
			}
			if !slices.Equal(again, wanted(p, text)) {
				t.Fatalf("%s by %+v: %v", text, p.record, again)
			}
		}
		if l.Record() != p.record {
			t.Error(l.Record())
		}
	}
}

// R1: what may not be makes no call panic, and numbers out of their range end soon.
func TestOfWhatMayNotBe(t *testing.T) {
	odd := []int{0, 1, -1, 2, -3, 65, 1001, low, low + 1, high, high - 1}
	for _, a := range odd {
		for _, b := range odd {
			for _, c := range odd {
				item.Ends(a, b, c)
				item.Groups(a, b, c)
			}
		}
	}
	for _, p := range places() {
		l := made(t, p.record)
		for _, x := range odd {
			for _, d := range []draft.Draft{{Int: []int{x}}, {Frac: []int{x}}, {Neg: true, Int: []int{x, x, x, x}, Sep: true, Frac: []int{x}}, {Int: []int{1}, Frac: []int{1}}} {
				all := item.Items(l, d)
				item.Text(all)
				item.Tags(all)
				item.Find(all, x)
			}
		}
	}
}

// R1: long drafts are shown soon.
func TestLong(t *testing.T) {
	const n = 1 << 18
	l, err := forty.Get("en-IN")
	if err != api.OK {
		t.Fatal(err)
	}
	all := item.Items(l, draftOf("-"+strings.Repeat("1", n)+"."+strings.Repeat("7", n)))
	// The sign, the currency's, the separator; and behind the last three digits ahead of it two and two.
	if len(all) != 2+n+(n-2)/2+1+n || len(item.Tags(all)) != len(all) {
		t.Error(len(all))
	}
	if at := item.Find(all, n); at != 2+n+(n-2)/2 || all[at].Tag != item.Decimal {
		t.Error(at)
	}
	if s := item.Text(all); !strings.HasPrefix(s, "-\u20b91,11,11,1") || !strings.Contains(s, "1,11,111.777") || len(s) != len(all)+2 {
		t.Error(len(s))
	}
}
