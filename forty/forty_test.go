package forty_test

import (
	"slices"
	"strconv"
	"strings"
	"sync"
	"testing"

	"abacist/api"
	"abacist/fault"
	"abacist/forty"
	"abacist/locale"
)

// chapter is the chapter's table, as it is written there.
const chapter = `"ar-EG" "\u00a4#,##0.00" "arab" "\u066b" "\u066c" "-" "\u066a" "EGP"
"bg-BG" "0.00\u00a0\u00a4" "latn" "," "" "-" "%" "BGN"
"bn-BD" "#,##,##0.00\u00a4" "beng" "." "," "-" "%" "\u09f3"
"cs-CZ" "#,##0.00\u00a0\u00a4" "latn" "," "\u202f" "-" "%" "K\u010d"
"da-DK" "#,##0.00\u00a0\u00a4" "latn" "," "." "-" "%" "kr"
"de-AT" "\u00a4\u00a0#,##0.00" "latn" "," "." "-" "%" "\u20ac"
"de-CH" "\u00a4\u00a0#,##0.00;\u00a4-#,##0.00" "latn" "." "\u2019" "-" "%" "CHF"
"de-DE" "#,##0.00\u00a0\u00a4" "latn" "," "." "-" "%" "\u20ac"
"dz-BT" "\u00a4#,##,##0.00" "tibt" "." "," "-" "%" "Nu"
"el-GR" "#,##0.00\u00a0\u00a4" "latn" "," "." "-" "%" "\u20ac"
"en-GB" "\u00a4#,##0.00" "latn" "." "," "-" "%" "\u00a3"
"en-IN" "\u00a4#,##,##0.00" "latn" "." "," "-" "%" "\u20b9"
"en-US" "\u00a4#,##0.00" "latn" "." "," "-" "%" "$"
"es-ES" "#,##0.00\u00a0\u00a4" "latn" "," "." "-" "%" "\u20ac"
"et-EE" "#,##0.00\u00a0\u00a4" "latn" "," "\u202f" "\u2212" "%" "\u20ac"
"fa-IR" "#,##0.00" "arabext" "\u066b" "\u066c" "\u2212" "\u066a" ""
"fi-FI" "#,##0.00\u00a0\u00a4" "latn" "," "\u202f" "\u2212" "%" "\u20ac"
"fr-CA" "#,##0.00\u00a0\u00a4" "latn" "," "\u202f" "-" "%" "$"
"fr-FR" "#,##0.00\u00a0\u00a4" "latn" "," "\u202f" "-" "%" "\u20ac"
"gu-IN" "\u00a4#,##,##0.00" "gujr" "." "," "-" "%" "\u20b9"
"he-IL" "#,##0.00\u00a0\u00a4" "latn" "." "," "-" "%" "\u20aa"
"hi-IN" "\u00a4#,##,##0.00" "deva" "." "," "-" "%" "\u20b9"
"hu-HU" "#,##0.00\u00a0\u00a4" "latn" "," "\u202f" "-" "%" "Ft"
"id-ID" "\u00a4\u00a0#,##0.00" "latn" "," "." "-" "%" "Rp"
"ja-JP" "\u00a4#,##0" "latn" "." "," "-" "%" "\uffe5"
"km-KH" "#,##0.00\u00a4" "khmr" "," "." "-" "%" "\u17db"
"kn-IN" "\u00a4#,##,##0.00" "knda" "." "," "-" "%" "\u20b9"
"ko-KR" "\u00a4#,##0" "latn" "." "," "-" "%" "\u20a9"
"lo-LA" "\u00a4#,##0.00;\u00a4-#,##0.00" "laoo" "," "." "-" "%" "\u20ad"
"mr-IN" "\u00a4#,##,##0.00" "deva" "." "," "-" "%" "\u20b9"
"my-MM" "#,##0.00\u00a0\u00a4" "mymr" "." "," "-" "%" "K"
"nb-NO" "\u00a4\u00a0#,##0.00;\u00a4\u00a0-#,##0.00" "latn" "," "\u202f" "\u2212" "%" "kr"
"nl-NL" "\u00a4\u00a0#,##0.00;\u00a4\u00a0-#,##0.00" "latn" "," "." "-" "%" "\u20ac"
"pl-PL" "#,##0.00\u00a0\u00a4" "latn" "," "\u202f" "-" "%" "z\u0142"
"pt-BR" "\u00a4\u00a0#,##0.00" "latn" "," "." "-" "%" "R$"
"ru-RU" "#,##0.00\u00a0\u00a4" "latn" "," "\u202f" "-" "%" "\u20bd"
"sl-SI" "#,##0.##%" "latn" "," "." "\u2212" "%" ""
"ta-IN" "\u00a4\u00a0#,##,##0.00" "tamldec" "." "," "-" "%" "\u20b9"
"th-TH" "\u00a4#,##0.00" "thai" "." "," "-" "%" "\u0e3f"
"zh-CN" "\u00a4#,##0.00" "latn" "." "," "-" "%" "\u00a5"`

// wanted is the records of the chapter's table, in its row.
func wanted(t *testing.T) []locale.Record {
	t.Helper()
	var all []locale.Record
	for _, line := range strings.Split(chapter, "\n") {
		var r locale.Record
		words := strings.Fields(line)
		fields := []*string{&r.Name, &r.Pattern, &r.System, &r.Decimal, &r.Group, &r.Minus, &r.Percent, &r.Currency}
		if len(words) != len(fields) {
			t.Fatalf("%s: %d words", line, len(words))
		}
		for i, field := range fields {
			s, err := strconv.Unquote(words[i])
			if err != nil {
				t.Fatalf("%s: %v", words[i], err)
			}
			*field = s
		}
		all = append(all, r)
	}
	return all
}

// namesOf is records' names.
func namesOf(all []locale.Record) []string {
	var names []string
	for _, r := range all {
		names = append(names, r.Name)
	}
	return names
}

// others is names of none: empty, cut, too long, in other letters, with what stands in a record elsewhere.
func others(all []locale.Record) []string {
	texts := []string{"", "-", "--", "de", "DE-AT", "de_AT", "de-BE", "xx-XX", "zz", "a", "AT", "\xff", "de-AT\x00", "\u00a0", "latn", "forty", "de\u2212AT"}
	for _, r := range all {
		n := r.Name
		texts = append(texts, n[:len(n)-1], n[1:], n+" ", " "+n, n+"-", "-"+n, strings.ToLower(n), strings.ToUpper(n), n+n, r.Pattern, r.Currency)
	}
	return texts
}

// P12.1: all names, rising as bytes.
func TestNames(t *testing.T) {
	got := forty.Names()
	if want := namesOf(wanted(t)); !slices.Equal(got, want) || len(got) != 40 {
		t.Errorf("%q, not %q", got, want)
	}
	for i := 1; i < len(got); i++ {
		if got[i-1] >= got[i] {
			t.Errorf("%q ahead of %q", got[i-1], got[i])
		}
	}
}

// P12.1: the record of each name, and its locale, which is the one that is made of the record.
func TestRecordAndGet(t *testing.T) {
	for _, want := range wanted(t) {
		if r, err := forty.Record(want.Name); r != want || err != api.OK {
			t.Errorf("Record(%s): %q, %d, not %q", want.Name, r, err, want)
		}
		l, err := forty.Get(want.Name)
		if l == nil || err != api.OK || l.Record() != want {
			t.Errorf("Get(%s): %v, %d", want.Name, l, err)
			continue
		}
		other, e := locale.New(want)
		if e != nil {
			t.Fatalf("%s: %v", want.Name, e)
		}
		same(t, l, other)
	}
}

// same looks whether two locales tell the same.
func same(t *testing.T, a, b *locale.Locale) {
	t.Helper()
	name := a.Record().Name
	for d := -1; d <= 10; d++ {
		if a.Digit(d) != b.Digit(d) || a.Sign(a.Digit(d)) != b.Sign(b.Digit(d)) {
			t.Errorf("%s: digit %d", name, d)
		}
	}
	for _, neg := range []bool{false, true} {
		ahead, behind := a.Around(neg)
		before, after := b.Around(neg)
		if !slices.Equal(ahead, before) || !slices.Equal(behind, after) {
			t.Errorf("%s: %v %v, not %v %v", name, ahead, behind, before, after)
		}
	}
}

// P12.1: the zero record, nil and ErrNone, where there is none.
func TestNone(t *testing.T) {
	names := namesOf(wanted(t))
	for _, name := range others(wanted(t)) {
		if slices.Contains(names, name) {
			t.Fatalf("%q is a name", name)
		}
		if r, err := forty.Record(name); r != (locale.Record{}) || err != api.ErrNone {
			t.Errorf("Record(%q): %q, %d", name, r, err)
		}
		if l, err := forty.Get(name); l != nil || err != api.ErrNone {
			t.Errorf("Get(%q): %v, %d", name, l, err)
		}
	}
}

// P12.1: each name and its record, in that row, so often as it is gone through.
func TestAll(t *testing.T) {
	want := wanted(t)
	all := forty.All()
	for range 3 {
		var got []locale.Record
		for name, r := range all {
			if name != r.Name {
				t.Errorf("%q: %q", name, r)
			}
			got = append(got, r)
		}
		if !slices.Equal(got, want) {
			t.Errorf("%q, not %q", got, want)
		}
	}
}

// P12.1: who goes through them may stop at each, and go on elsewhere within it.
func TestAllStops(t *testing.T) {
	want := namesOf(wanted(t))
	all := forty.All()
	for n := range want {
		var got []string
		for name := range all {
			got = append(got, name)
			if len(got) == n+1 {
				break
			}
		}
		if !slices.Equal(got, want[:n+1]) {
			t.Errorf("%d: %q", n, got)
		}
	}
	count := 0
	for outer := range all {
		for inner := range all {
			if inner == outer {
				count++
				break
			}
		}
	}
	if count != len(want) {
		t.Errorf("%d within one another", count)
	}
}

// P12.2: the chapter's examples, and its edges.
func TestMatch(t *testing.T) {
	for _, x := range []struct {
		tag, want string
		err       api.Errno
	}{
		{"de", "de-AT", api.OK}, {"fr-BE", "fr-CA", api.OK},
		{"de-DE", "de-DE", api.OK}, {"de-AT", "de-AT", api.OK}, {"fr-FR", "fr-FR", api.OK}, {"en-US", "en-US", api.OK},
		{"en", "en-GB", api.OK}, {"en-", "en-GB", api.OK}, {"en-us", "en-GB", api.OK}, {"en-US-", "en-GB", api.OK},
		{"en-Latn-US", "en-GB", api.OK}, {"en--", "en-GB", api.OK}, {"en-\xff", "en-GB", api.OK}, {"en-de", "en-GB", api.OK},
		{"zh-Hant-TW", "zh-CN", api.OK}, {"ar", "ar-EG", api.OK}, {"zh", "zh-CN", api.OK}, {"fr", "fr-CA", api.OK},
		{"", "", api.ErrNone}, {"-", "", api.ErrNone}, {"-de", "", api.ErrNone}, {"-DE", "", api.ErrNone}, {"--", "", api.ErrNone},
		{"d", "", api.ErrNone}, {"deu", "", api.ErrNone}, {"DE", "", api.ErrNone}, {"De-DE", "", api.ErrNone}, {"DE-de", "", api.ErrNone},
		{"de_DE", "", api.ErrNone}, {"de ", "", api.ErrNone}, {" de", "", api.ErrNone}, {"de\u2212DE", "", api.ErrNone}, {"de\x00-DE", "", api.ErrNone},
		{"xx", "", api.ErrNone}, {"xx-DE", "", api.ErrNone}, {"AT", "", api.ErrNone}, {"\xff", "", api.ErrNone}, {"pt-BR", "pt-BR", api.OK},
	} {
		if got, err := forty.Match(x.tag); got != x.want || err != x.err {
			t.Errorf("Match(%q): %q, %d, not %q, %d", x.tag, got, err, x.want, x.err)
		}
	}
}

// nearest is the chapter's words on tags, on a list of names.
func nearest(names []string, tag string) (string, api.Errno) {
	if slices.Contains(names, tag) {
		return tag, api.OK
	}
	ahead := tag
	if at := strings.IndexByte(tag, '-'); at >= 0 {
		ahead = tag[:at]
	}
	for _, name := range names {
		if strings.HasPrefix(name, tag+"-") || strings.HasPrefix(name, ahead+"-") {
			return name, api.OK
		}
	}
	return "", api.ErrNone
}

// P12.2: every language with every ending, what is no name, and every text of up to five of some bytes.
func TestMatchModel(t *testing.T) {
	names := namesOf(wanted(t))
	tags := append(others(wanted(t)), names...)
	for _, a := range names {
		for _, b := range names {
			tags = append(tags, a[:2], a[:2]+b[2:], a+b[2:], b[3:]+a[2:])
		}
	}
	for round := []string{""}; len(round[0]) < 5; {
		var longer []string
		for _, s := range round {
			for _, c := range []string{"d", "e", "-", "D", "E", "f", "r"} {
				longer = append(longer, s+c)
			}
		}
		round = longer
		tags = append(tags, round...)
	}
	for _, tag := range tags {
		want, e := nearest(names, tag)
		if got, err := forty.Match(tag); got != want || err != e {
			t.Errorf("Match(%q): %q, %d, not %q, %d", tag, got, err, want, e)
		}
	}
}

// P12.3: all forty may be.
func TestMayBe(t *testing.T) {
	for name, r := range forty.All() {
		if l, err := locale.New(r); l == nil || err != nil {
			t.Errorf("%s: %s", name, fault.Text(err))
		}
	}
}

// R4: what is answered is new memory.
func TestNewMemory(t *testing.T) {
	want := namesOf(wanted(t))
	first := forty.Names()
	clear(first)
	_ = append(first[:3], "x", "y")
	if got := forty.Names(); !slices.Equal(got, want) {
		t.Errorf("%q", got)
	}
	l, _ := forty.Get("de-DE")
	ahead, behind := l.Around(true)
	clear(ahead)
	clear(behind)
	r := l.Record()
	r.Name = ""
	m, err := forty.Get("de-DE")
	if err != api.OK || m.Record().Name != "de-DE" {
		t.Errorf("%v, %d", m, err)
	}
}

// R5: calls side by side tell the same.
func TestSideBySide(t *testing.T) {
	want := namesOf(wanted(t))
	var group sync.WaitGroup
	for range 8 {
		group.Add(1)
		go func() {
			defer group.Done()
			for _, name := range want {
				l, err := forty.Get(name)
				if err != api.OK || l.Record().Name != name || !slices.Equal(forty.Names(), want) {
					t.Errorf("%s: %v, %d", name, l, err)
				}
			}
		}()
	}
	group.Wait()
}
