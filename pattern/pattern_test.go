package pattern_test

import (
	"regexp"
	"slices"
	"strings"
	"testing"

	"abacist/api"
	"abacist/pattern"
)

// piece is a literal, if the kind is one, else a place.
func lit(s string) pattern.Piece { return pattern.Piece{Kind: pattern.Literal, Text: s} }

var (
	cur  = pattern.Piece{Kind: pattern.Currency}
	per  = pattern.Piece{Kind: pattern.Percent}
	dash = pattern.Piece{Kind: pattern.Minus}
)

// list is pieces as a list.
func list(l ...pattern.Piece) []pattern.Piece { return l }

// whole is a pattern with the negative half that stands for none.
func whole(prefix, suffix []pattern.Piece, primary, secondary, minInt, minFrac, maxFrac int) pattern.Pattern {
	return pattern.Pattern{
		Prefix: prefix, Suffix: suffix,
		NegPrefix: append(list(dash), prefix...), NegSuffix: slices.Clone(suffix),
		Primary: primary, Secondary: secondary, MinInt: minInt, MinFrac: minFrac, MaxFrac: maxFrac,
	}
}

// negated is a pattern with another negative half.
func negated(p pattern.Pattern, prefix, suffix []pattern.Piece) pattern.Pattern {
	p.NegPrefix, p.NegSuffix = prefix, suffix
	return p
}

// alike tells whether all fields are the same, word for word.
func alike(a, b pattern.Pattern) bool {
	pieces := func(x, y []pattern.Piece) bool {
		if len(x) != len(y) {
			return false
		}
		for i := range x {
			if x[i].Kind != y[i].Kind || x[i].Text != y[i].Text {
				return false
			}
		}
		return true
	}
	return pieces(a.Prefix, b.Prefix) && pieces(a.Suffix, b.Suffix) &&
		pieces(a.NegPrefix, b.NegPrefix) && pieces(a.NegSuffix, b.NegSuffix) &&
		a.Primary == b.Primary && a.Secondary == b.Secondary &&
		a.MinInt == b.MinInt && a.MinFrac == b.MinFrac && a.MaxFrac == b.MaxFrac
}

// known is texts and their patterns, as the chapter's words tell them; printed is the text that such a pattern prints, if it is another one.
var known = []struct {
	text    string
	want    pattern.Pattern
	printed string
}{
	{"#,##0.00", whole(nil, nil, 3, 3, 1, 2, 2), ""},
	{"#,##0.00\u00a0\u00a4", whole(nil, list(lit("\u00a0"), cur), 3, 3, 1, 2, 2), ""},
	{"\u00a4#,##,##0.00", whole(list(cur), nil, 3, 2, 1, 2, 2), ""},
	{"\u00a4\u00a0#,##0.00;\u00a4\u00a0-#,##0.00", negated(whole(list(cur, lit("\u00a0")), nil, 3, 3, 1, 2, 2), list(cur, lit("\u00a0"), dash), nil), "\u00a4\u00a0#,##0.00;\u00a4\u00a0-#"},
	{"#,##0.##%", whole(nil, list(per), 3, 3, 1, 0, 2), ""},
	{"(0)", whole(list(lit("(")), list(lit(")")), 0, 0, 1, 0, 0), ""},
	{"0;(0)", negated(whole(nil, nil, 0, 0, 1, 0, 0), list(lit("(")), list(lit(")"))), "0;(#)"},
	{"#", whole(nil, nil, 0, 0, 0, 0, 0), ""},
	{"##", whole(nil, nil, 0, 0, 0, 0, 0), "#"},
	{"0", whole(nil, nil, 0, 0, 1, 0, 0), ""},
	{"00", whole(nil, nil, 0, 0, 2, 0, 0), ""},
	{"##00", whole(nil, nil, 0, 0, 2, 0, 0), "00"},
	{"#.#", whole(nil, nil, 0, 0, 0, 0, 1), ""},
	{"#.0", whole(nil, nil, 0, 0, 0, 1, 1), ""},
	{"0.00##", whole(nil, nil, 0, 0, 1, 2, 4), ""},
	{"0,0", whole(nil, nil, 1, 1, 2, 0, 0), ""},
	{"#,#", whole(nil, nil, 1, 1, 0, 0, 0), ""},
	{"##,#", whole(nil, nil, 1, 1, 0, 0, 0), "#,#"},
	{"00,0", whole(nil, nil, 1, 1, 3, 0, 0), ""},
	{"#,#,#", whole(nil, nil, 1, 1, 0, 0, 0), "#,#"},
	{"0,0,0", whole(nil, nil, 1, 1, 3, 0, 0), "00,0"},
	{"#,##,###", whole(nil, nil, 3, 2, 0, 0, 0), ""},
	{"#,###,##", whole(nil, nil, 2, 3, 0, 0, 0), ""},
	{"#,#,##,##0", whole(nil, nil, 3, 2, 1, 0, 0), "#,##,##0"},
	{"000000,00,000.0#", whole(nil, nil, 3, 2, 11, 1, 2), ""},
	{"0000,000", whole(nil, nil, 3, 3, 7, 0, 0), ""},
	{"#,#00", whole(nil, nil, 3, 3, 2, 0, 0), ""},
	{"#0,000", whole(nil, nil, 3, 3, 4, 0, 0), "0,000"},
	{"0;0", negated(whole(nil, nil, 0, 0, 1, 0, 0), nil, nil), "0;#"},
	{"0;-0", whole(nil, nil, 0, 0, 1, 0, 0), "0"},
	{"a0b;-a#,##0.0b", whole(list(lit("a")), list(lit("b")), 0, 0, 1, 0, 0), "a0b"},
	{"0;0-", negated(whole(nil, nil, 0, 0, 1, 0, 0), nil, list(dash)), "0;#-"},
	{"0a;-0b", negated(whole(nil, list(lit("a")), 0, 0, 1, 0, 0), list(dash), list(lit("b"))), "0a;-#b"},
	{"a0;b0", negated(whole(list(lit("a")), nil, 0, 0, 1, 0, 0), list(lit("b")), nil), "a0;b#"},
	{"-0", whole(list(dash), nil, 0, 0, 1, 0, 0), ""},
	{"--0%%", whole(list(dash, dash), list(per, per), 0, 0, 1, 0, 0), ""},
	{"a\u00a4b%c-d0", whole(list(lit("a"), cur, lit("b"), per, lit("c"), dash, lit("d")), nil, 0, 0, 1, 0, 0), ""},
	{"''0", whole(list(lit("'")), nil, 0, 0, 1, 0, 0), ""},
	{"''''0", whole(list(lit("''")), nil, 0, 0, 1, 0, 0), ""},
	{"'a'0", whole(list(lit("a")), nil, 0, 0, 1, 0, 0), "a0"},
	{"'#'0", whole(list(lit("#")), nil, 0, 0, 1, 0, 0), ""},
	{"'''#'0", whole(list(lit("'#")), nil, 0, 0, 1, 0, 0), ""},
	{"'#'''0", whole(list(lit("#'")), nil, 0, 0, 1, 0, 0), ""},
	{"'#''#'0", whole(list(lit("#'#")), nil, 0, 0, 1, 0, 0), ""},
	{"'a''b'0", whole(list(lit("a'b")), nil, 0, 0, 1, 0, 0), "a''b0"},
	{"a'b'c0", whole(list(lit("abc")), nil, 0, 0, 1, 0, 0), "abc0"},
	{"'#0,.;\u00a4%-19@*+E'0", whole(list(lit("#0,.;\u00a4%-19@*+E")), nil, 0, 0, 1, 0, 0), ""},
	{"'1'a'2'0", whole(list(lit("1a2")), nil, 0, 0, 1, 0, 0), ""},
	{"'-'-0", whole(list(lit("-"), dash), nil, 0, 0, 1, 0, 0), ""},
	{"0';';0", negated(whole(nil, list(lit(";")), 0, 0, 1, 0, 0), nil, nil), "0';';#"},
	{"0 :/e!?()[]\u00a3\u00a5", whole(nil, list(lit(" :/e!?()[]\u00a3\u00a5")), 0, 0, 1, 0, 0), ""},
	{"\x00\u00e9\u20ac\uffff\ufffd\U0010ffff0", whole(list(lit("\x00\u00e9\u20ac\uffff\ufffd\U0010ffff")), nil, 0, 0, 1, 0, 0), ""},
	{"\u0661\u0662\uff100", whole(list(lit("\u0661\u0662\uff10")), nil, 0, 0, 1, 0, 0), ""},
}

// wrongs is texts that are no pattern.
var wrongs = []string{
	"", "a", ";", "0;", ";0", "0;0;0", "0;;0", "0;0;", "\u00a4", "-", "%", "''", "'0'", "';'", "a;b", "0;a", "a;0",
	".", ",", "0.", "#.", ".0", ".#", "0..0", "0.0.0", ",0", "0,", "0,,0", "0,.0", ",.", "0.0,0", "0.,0", "0.0,", "0.,", "#,", ",#",
	"0#", "#0#", "0,#", "#0,#0", "0.#0", "0.0#0", "0;0#", "0;,0", "0;.0", "0;0.",
	"#a#", "0a0", "0-0", "0''0", "0'a'0", "0'0'0", "0 0", "0.0a0", "0a.0", "0\u00a40", "0%,0",
	"1", "0 1", "10", "01", "#2", "3#", "a40", "0a5", "6;0", "0;7", "80;0", "0;09", "@0", "0@", "*0", "0*", "+0", "0+", "E0", "0E0", "0E", "0;E0",
	"'", "'0", "0'", "'a'0'", "'''0", "0'''", "'a''0", "0;'0", "0';0", "'0;0", "0'''''",
	"\xff0", "0\xff", "'\xff'0", "0;\xa40", "\xa40", "\xc2\u00a40", "0\xe2\x82", "\xed\xa0\x800", "0'\x80'", "\xc2'\xa4'0",
}

// P10.1: texts and the patterns that the chapter's words tell, the examples of the document too.
func TestParse(t *testing.T) {
	for _, x := range known {
		if p, err := pattern.Parse(x.text); !alike(p, x.want) || err != api.OK {
			t.Errorf("%q: %v %v, not %v", x.text, p, err, x.want)
		}
	}
}

// P10.1: what is no pattern has the error, and the zero pattern beside it.
func TestParseWrong(t *testing.T) {
	for _, s := range wrongs {
		if p, err := pattern.Parse(s); !alike(p, pattern.Pattern{}) || err != api.ErrForm {
			t.Errorf("%q: %v %v", s, p, err)
		}
	}
	for c := range 256 {
		s := string(rune(c))
		_, err := pattern.Parse(s + "0")
		want := api.OK
		if strings.Contains("123456789@*+E';,.", s) {
			want = api.ErrForm
		}
		if err != want {
			t.Errorf("%q: %v", s, err)
		}
		if _, err := pattern.Parse("'" + s + "'0"); (err != api.OK) != (s == "'") {
			t.Errorf("%q in a quotation: %v", s, err)
		}
	}
}

// P10.1: so many number signs ahead of the point, and behind it, as there may be, in both halves; commas do not count.
func TestParseRange(t *testing.T) {
	many := strings.Repeat
	ahead, behind := many("#", 34)+many("0", 30), many("0", 30)+many("#", 34)
	grouped := many("#,", 63) + "0"
	for _, s := range []string{ahead, "0." + behind, ahead + "." + behind, ahead + "." + behind + ";" + ahead + "." + behind, grouped, "a" + many("0", 64) + many("a", 100)} {
		if _, err := pattern.Parse(s); err != api.OK {
			t.Errorf("%q: %v", s, err)
		}
	}
	if p, _ := pattern.Parse(ahead + "." + behind); p.MinInt != 30 || p.MinFrac != 30 || p.MaxFrac != 64 {
		t.Error(p)
	}
	tooMany := []string{
		"#" + ahead, "0." + behind + "#", "#" + ahead + "." + behind + "#", "#," + grouped, many("#", 65), many("0", 65), "0." + many("0", 65), "0." + many("#", 65),
		"#" + ahead + ";0", "0;#" + ahead, "0;0." + behind + "#", "0." + behind + "#;0", "-#" + ahead + "a;'x'0b", many("0", 100000), "0." + many("#", 100000),
	}
	for _, s := range tooMany {
		if p, err := pattern.Parse(s); !alike(p, pattern.Pattern{}) || err != api.ErrRange {
			t.Errorf("%q: %v %v", s, p, err)
		}
	}
	for _, s := range []string{"0" + ahead, "#" + ahead + ";", "#" + ahead + ";0;0", "#" + ahead + ";1", "#" + ahead + "'", "#" + ahead + ".", "," + "#" + ahead, "#" + ahead + ";0.", "0;0." + behind + "0", "#" + ahead + "\xff", "#" + ahead + "a0"} {
		if p, err := pattern.Parse(s); !alike(p, pattern.Pattern{}) || err != api.ErrForm {
			t.Errorf("%q: %v %v", s, p, err)
		}
	}
}

// told is the pattern of a short text by another way: by how many quotes stand ahead, and by expressions for halves and numbers.
func told(s string) (pattern.Pattern, bool) {
	// Each literal becomes the letter L, and is kept; a pair of quotes is one of them.
	var form strings.Builder
	var kept []rune
	quotes := 0
	l := []rune(s)
	for i, c := range l {
		if c == '\'' {
			quotes++
			if run := quotesAhead(l, i); run%2 == 1 {
				form.WriteRune('L')
				kept = append(kept, c)
			}
			continue
		}
		if quotes%2 == 0 && strings.ContainsRune("#0,.;\u00a4%-123456789@*+E", c) {
			form.WriteRune(c)
			continue
		}
		form.WriteRune('L')
		kept = append(kept, c)
	}
	m := patternForm.FindStringSubmatch(form.String())
	if m == nil || quotes%2 == 1 {
		return pattern.Pattern{}, false
	}
	next := func(affix string) []pattern.Piece {
		var all []pattern.Piece
		for _, run := range runForm.FindAllString(affix, -1) {
			switch run {
			case "\u00a4":
				all = append(all, cur)
			case "%":
				all = append(all, per)
			case "-":
				all = append(all, dash)
			default:
				all = append(all, lit(string(kept[:len(run)])))
				kept = kept[len(run):]
			}
		}
		return all
	}
	prefix, suffix := next(m[1]), next(m[4])
	p := whole(prefix, suffix, 0, 0, strings.Count(m[2], "0"), strings.Count(m[3], "0"), max(0, len(m[3])-1))
	if last := strings.LastIndex(m[2], ","); last >= 0 {
		p.Primary = len(m[2]) - last - 1
		p.Secondary = p.Primary
		if one := strings.LastIndex(m[2][:last], ","); one >= 0 {
			p.Secondary = last - one - 1
		}
	}
	if m[5] != "" {
		p.NegPrefix = next(m[6])
		p.NegSuffix = next(m[9])
	}
	return p, orderForm.MatchString(strings.ReplaceAll(m[2], ",", "")) && orderForm.MatchString(strings.ReplaceAll(m[7], ",", ""))
}

// quotesAhead is how many quotes stand side by side directly ahead of a place.
func quotesAhead(l []rune, i int) int {
	n := 0
	for i > 0 && l[i-1] == '\'' {
		n++
		i--
	}
	return n
}

const halfForm = "([L\u00a4%-]*)([#0]+(?:,[#0]+)*)(\\.(?:0+#*|#+))?([L\u00a4%-]*)"

var (
	patternForm = regexp.MustCompile("^" + halfForm + "(;" + halfForm + ")?$")
	orderForm   = regexp.MustCompile("^#*0*$")
	runForm     = regexp.MustCompile("L+|\u00a4|%|-")
)

// eachText tells every text of up to so many of the pieces.
func eachText(most int, pieces []string, tell func(s string)) {
	var grow func(s string, left int)
	grow = func(s string, left int) {
		tell(s)
		for i := 0; i < len(pieces) && left > 0; i++ {
			grow(s+pieces[i], left-1)
		}
	}
	grow("", most)
}

// P10.1, P10.4: every short text is just what the chapter's words make of it; what is one prints what is parsed as it was.
func TestShortTexts(t *testing.T) {
	check := func(s string) {
		want, is := told(s)
		p, err := pattern.Parse(s)
		if !is && (err != api.ErrForm || !alike(p, pattern.Pattern{})) {
			t.Fatalf("%q: %v %v", s, p, err)
		}
		if !is {
			return
		}
		if err != api.OK || !alike(p, want) {
			t.Fatalf("%q: %v %v, not %v", s, p, err, want)
		}
		if again, err := pattern.Parse(pattern.Print(p)); err != api.OK || !alike(again, p) {
			t.Fatalf("%q: prints %q, which is %v %v", s, pattern.Print(p), again, err)
		}
	}
	eachText(5, []string{"'", "#", "0", ",", ".", ";", "\u00a4", "-", "1", "a"}, check)
	eachText(7, []string{"'", "#", "0", ";", "a"}, check)
	eachText(7, []string{"#", "0", ",", "."}, check)
	eachText(3, []string{"'#0'", "0", "0.0", "#,##0", "E", "+", "@", "*", "%", "\u00a4\u00a4", ";", "\u20ac", "''", "\uff11", "9"}, check)
}

// P10.2: the texts that patterns print.
func TestPrint(t *testing.T) {
	for _, x := range known {
		want := x.printed
		if want == "" {
			want = x.text
		}
		if s := pattern.Print(x.want); s != want {
			t.Errorf("%v: %q, not %q", x.want, s, want)
		}
	}
}

// P10.2: every short literal is quoted run by run, wherever it stands.
func TestPrintLiteral(t *testing.T) {
	runs := regexp.MustCompile("['#0,.;\u00a4%1-9@*+E-]+")
	one := func(s string) string {
		doubled := strings.ReplaceAll(s, "'", "''")
		if strings.Count(s, "'") == len(s) {
			return doubled
		}
		return "'" + doubled + "'"
	}
	check := func(s string) {
		if s == "" {
			return
		}
		want := runs.ReplaceAllStringFunc(s, one)
		p := negated(whole(list(lit(s)), list(cur, lit(s), dash), 0, 0, 1, 0, 0), list(lit(s), per), list(lit(s)))
		text := want + "0\u00a4" + want + "-;" + want + "%#" + want
		if got := pattern.Print(p); got != text {
			t.Fatalf("%q: %q, not %q", s, got, text)
		}
		if again, err := pattern.Parse(text); err != api.OK || !alike(again, p) {
			t.Fatalf("%q: %q is %v %v", s, text, again, err)
		}
	}
	eachText(5, []string{"'", "#", "\u00a4", "a", "1", ";"}, check)
	eachText(2, []string{"'", "#", "0", ",", ".", ";", "\u00a4", "%", "-", "1", "2", "3", "4", "5", "6", "7", "8", "9", "@", "*", "+", "E", "a", "e", " ", "/", ":", "\"", "\u20ac", "\u00a0", "\U0001f600", "\ufffd", "\x00", "\u00b7"}, check)
}

// P10.2, P10.4: every number of up to so many signs prints so many of them as the chapter's words say.
func TestPrintNumber(t *testing.T) {
	check := func(s string) {
		p, err := pattern.Parse(s)
		if err != api.OK {
			return
		}
		n := max(p.MinInt, 1)
		if p.Primary > 0 {
			n = max(n, p.Primary+1)
			if p.Secondary != p.Primary {
				n = max(n, p.Primary+p.Secondary+1)
			}
		}
		want := strings.Repeat("#", n-p.MinInt) + strings.Repeat("0", p.MinInt)
		if p.Primary > 0 {
			want = want[:n-p.Primary] + "," + want[n-p.Primary:]
			if outer := p.Primary + p.Secondary; p.Secondary != p.Primary {
				want = want[:n-outer] + "," + want[n-outer:]
			}
		}
		if p.MaxFrac > 0 {
			want += "." + strings.Repeat("0", p.MinFrac) + strings.Repeat("#", p.MaxFrac-p.MinFrac)
		}
		if got := pattern.Print(p); got != want {
			t.Fatalf("%q: %q, not %q", s, got, want)
		}
		if again, err := pattern.Parse(want); err != api.OK || !alike(again, p) {
			t.Fatalf("%q: %q is %v %v", s, want, again, err)
		}
	}
	eachText(9, []string{"#", "0", ","}, check)
	eachText(7, []string{"#", "0", "."}, check)
	for first := 1; first < 63; first += 7 {
		for second := 1; first+second < 64; second += 3 {
			for zeros := range 65 - first - second {
				check(strings.Repeat("#", 64-first-second-zeros) + strings.Repeat("0", zeros) + "," + strings.Repeat("0", first) + "," + strings.Repeat("0", second))
			}
			check("#," + strings.Repeat("#", first) + "," + strings.Repeat("#", second) + "." + strings.Repeat("0", first) + strings.Repeat("#", second))
		}
	}
}

// P10.1: two are the same, if all fields are; nil and empty lists are one.
func TestSame(t *testing.T) {
	base := func() pattern.Pattern {
		return pattern.Pattern{
			Prefix: list(lit("a"), cur), Suffix: list(lit("b")), NegPrefix: list(dash, lit("a")), NegSuffix: list(per),
			Primary: 3, Secondary: 2, MinInt: 1, MinFrac: 4, MaxFrac: 5,
		}
	}
	if !pattern.Same(base(), base()) || !pattern.Same(pattern.Pattern{}, pattern.Pattern{}) {
		t.Error("none is the same as itself")
	}
	empty := pattern.Pattern{Prefix: list(), Suffix: []pattern.Piece{}, NegPrefix: make([]pattern.Piece, 0, 4), NegSuffix: []pattern.Piece{}}
	if !pattern.Same(empty, pattern.Pattern{}) || !pattern.Same(pattern.Pattern{}, empty) {
		t.Error("nil and empty lists are one")
	}
	changes := []func(p *pattern.Pattern){
		func(p *pattern.Pattern) { p.Prefix[0].Text = "b" },
		func(p *pattern.Pattern) { p.Prefix[1].Kind = pattern.Percent },
		func(p *pattern.Pattern) { p.Prefix[1].Text = "x" },
		func(p *pattern.Pattern) { p.Prefix = p.Prefix[:1] },
		func(p *pattern.Pattern) { p.Prefix[0], p.Prefix[1] = p.Prefix[1], p.Prefix[0] },
		func(p *pattern.Pattern) { p.Suffix[0].Text = "" },
		func(p *pattern.Pattern) { p.Suffix = nil },
		func(p *pattern.Pattern) { p.NegPrefix = append(p.NegPrefix, cur) },
		func(p *pattern.Pattern) { p.NegPrefix[0].Kind = pattern.Literal },
		func(p *pattern.Pattern) { p.NegSuffix[0].Kind = pattern.Minus },
		func(p *pattern.Pattern) { p.NegSuffix = list() },
		func(p *pattern.Pattern) { p.Primary++ },
		func(p *pattern.Pattern) { p.Secondary++ },
		func(p *pattern.Pattern) { p.MinInt = -1 },
		func(p *pattern.Pattern) { p.MinFrac = 1 << 62 },
		func(p *pattern.Pattern) { p.MaxFrac-- },
	}
	for i, change := range changes {
		p := base()
		change(&p)
		if pattern.Same(p, base()) || pattern.Same(base(), p) || !pattern.Same(p, p) {
			t.Errorf("change %d: %v", i, p)
		}
	}
}

// P10.3: the texts of pieces, one behind the other, and how many are of a kind.
func TestResolveCount(t *testing.T) {
	l := list(lit("a"), cur, lit("'#'"), per, dash, cur, lit("\u20ac"), dash, dash)
	for _, x := range []struct {
		l                         []pattern.Piece
		currency, percent, minus  string
		want                      string
		lits, curs, pers, minuses int
	}{
		{nil, "C", "P", "M", "", 0, 0, 0, 0},
		{list(), "C", "P", "M", "", 0, 0, 0, 0},
		{l, "C", "P", "M", "aC'#'PMC\u20acMM", 3, 2, 1, 3},
		{l, "", "", "", "a'#'\u20ac", 3, 2, 1, 3},
		{l, "EUR", "%", "\u2212", "aEUR'#'%\u2212EUR\u20ac\u2212\u2212", 3, 2, 1, 3},
		{list(pattern.Piece{Kind: pattern.Currency, Text: "x"}), "$", "P", "M", "$", 0, 1, 0, 0},
		{list(lit(""), lit("\xff"), lit("-")), "C", "P", "M", "\xff-", 3, 0, 0, 0},
		{list(cur, per), "%", "\u00a4", "M", "%\u00a4", 0, 1, 1, 0},
	} {
		if s := pattern.Resolve(x.l, x.currency, x.percent, x.minus); s != x.want {
			t.Errorf("%v: %q, not %q", x.l, s, x.want)
		}
		for kind, want := range []int{x.lits, x.curs, x.pers, x.minuses} {
			if n := pattern.Count(x.l, kind); n != want {
				t.Errorf("%v: %d of the kind %d, not %d", x.l, n, kind, want)
			}
		}
		for _, kind := range []int{-1 << 63, -1, 4, 5, 164, 1<<63 - 1} {
			if n := pattern.Count(x.l, kind); n != 0 {
				t.Errorf("%v: %d of the kind %d", x.l, n, kind)
			}
		}
	}
	odd := pattern.Piece{Kind: 9, Text: "x"}
	if n := pattern.Count(list(odd, cur, odd), 9); n != 2 {
		t.Error(n)
	}
}

// P10.2: the kinds are numbered in their row.
func TestKinds(t *testing.T) {
	if pattern.Literal != 0 || pattern.Currency != 1 || pattern.Percent != 2 || pattern.Minus != 3 {
		t.Error("the kinds have other numbers")
	}
}

// R4: an answer shares nothing with another one, nor one list of it with another; what is handed in stays.
func TestNewMemory(t *testing.T) {
	const text = "a\u00a4#,##0.00b%"
	p, _ := pattern.Parse(text)
	want, _ := pattern.Parse(text)
	spoil := func(l []pattern.Piece) {
		l = l[:cap(l)]
		for i := range l {
			l[i] = lit("spoilt")
		}
	}
	spoil(p.Prefix)
	if !slices.Equal(p.NegPrefix, want.NegPrefix) {
		t.Error(p.NegPrefix)
	}
	spoil(p.Suffix)
	if !slices.Equal(p.NegSuffix, want.NegSuffix) {
		t.Error(p.NegSuffix)
	}
	spoil(p.NegPrefix)
	spoil(p.NegSuffix)
	if again, _ := pattern.Parse(text); !alike(again, want) {
		t.Error(again)
	}

	room := list(lit("a"), cur, lit("kept"))
	q := whole(room[:2], room[:1], 3, 3, 1, 2, 2)
	pattern.Print(q)
	pattern.Resolve(room[:1], "C", "P", "M")
	if !slices.Equal(room, list(lit("a"), cur, lit("kept"))) {
		t.Error(room)
	}
}

// R1: long texts end, and none panics.
func TestLong(t *testing.T) {
	const n = 1 << 18
	for _, x := range []struct {
		text string
		err  api.Errno
	}{
		{strings.Repeat("a", n) + "0", api.OK},
		{strings.Repeat("'#'a", n) + "0", api.OK},
		{strings.Repeat("''", n) + "0", api.OK},
		{strings.Repeat("''", n) + "'0", api.ErrForm},
		{strings.Repeat("-a", n) + "0", api.OK},
		{strings.Repeat(";", n), api.ErrForm},
		{strings.Repeat("0;", n), api.ErrForm},
		{strings.Repeat("0,", n), api.ErrForm},
		{strings.Repeat("0,", n) + "0", api.ErrRange},
		{strings.Repeat("0.", n), api.ErrForm},
		{strings.Repeat("\xff", n), api.ErrForm},
	} {
		p, err := pattern.Parse(x.text)
		if err != x.err {
			t.Errorf("%q..: %v", x.text[:8], err)
		}
		if again, _ := pattern.Parse(pattern.Print(p)); err == api.OK && !alike(again, p) {
			t.Errorf("%q.. is not printed as it was", x.text[:8])
		}
	}
}

// R1: what no text told does not panic either.
func TestOddPatterns(t *testing.T) {
	for _, p := range []pattern.Pattern{
		{},
		{Primary: -1, Secondary: -5, MinInt: -3, MinFrac: -1, MaxFrac: -2},
		{Primary: 3, Secondary: -9, MinInt: 1, MinFrac: 5, MaxFrac: 2},
		{Prefix: list(pattern.Piece{Kind: 7, Text: "x"}), NegSuffix: list(pattern.Piece{Kind: -1})},
		{Prefix: list(lit("\xff'\xe2"))},
	} {
		pattern.Print(p)
		pattern.Resolve(p.Prefix, "C", "P", "M")
	}
}
