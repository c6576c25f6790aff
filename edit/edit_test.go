package edit_test

import (
	"regexp"
	"slices"
	"strings"
	"testing"

	"abacist/api"
	"abacist/draft"
	"abacist/edit"
	"abacist/paste"
)

const (
	lowest  = -1 << 63
	highest = 1<<63 - 1
)

// wide is limits in the way of nothing.
var wide = edit.Limits{Int: 64, Frac: 64, Signed: true}

// The model: a state is its draft's text, in which | stands for the caret and
// ^ for the anchor, if that stands elsewhere: "-1^2.|5".

// list is the atoms that a text without a sign has; a slash is no atom.
func list(text string) []int {
	var l []int
	for _, b := range []byte(text) {
		switch b {
		case '.':
			l = append(l, 10)
		case '/':
			l = append(l, 11)
		default:
			l = append(l, int(b)-'0')
		}
	}
	return l
}

// made is the draft that has a text.
func made(text string) draft.Draft {
	text, neg := strings.CutPrefix(text, "-")
	ahead, behind, sep := strings.Cut(text, ".")
	return draft.Draft{Neg: neg, Int: list(ahead), Sep: sep, Frac: list(behind)}
}

// state is the state that is marked in a text.
func state(marked string) edit.State {
	bare := strings.NewReplacer("-", "", "^", "").Replace(marked)
	caret := strings.Index(bare, "|")
	anchor := strings.Index(strings.NewReplacer("-", "", "|", "").Replace(marked), "^")
	if anchor < 0 {
		anchor = caret
	}
	return edit.State{D: made(strings.NewReplacer("|", "", "^", "").Replace(marked)), Caret: caret, Anchor: anchor}
}

// put is a text with a mark behind so many of its bytes.
func put(text string, at int, mark string) string { return text[:at] + mark + text[at:] }

// marked is a state as its text.
func marked(s edit.State) string {
	text := ""
	for _, x := range s.D.Int {
		text += string(rune('0' + x))
	}
	if s.D.Sep {
		text += "."
	}
	for _, x := range s.D.Frac {
		text += string(rune('0' + x))
	}
	switch {
	case s.Anchor < s.Caret:
		text = put(put(text, s.Caret, "|"), s.Anchor, "^")
	case s.Anchor > s.Caret:
		text = put(put(text, s.Anchor, "^"), s.Caret, "|")
	default:
		text = put(text, s.Caret, "|")
	}
	if s.D.Neg {
		return "-" + text
	}
	return text
}

// isZero tells whether a state is the zero one.
func isZero(s edit.State) bool {
	return !s.D.Neg && !s.D.Sep && len(s.D.Int)+len(s.D.Frac) == 0 && s.Caret == 0 && s.Anchor == 0
}

// same holds an answer against a state that is marked, or against an error.
func same(t *testing.T, got edit.State, err api.Errno, want string, fails api.Errno, call ...any) {
	t.Helper()
	if fails != api.OK {
		if err != fails || !isZero(got) {
			t.Fatalf("%v: %v, %d, not the error %d", call, got, err, fails)
		}
		return
	}
	if err != api.OK || !edit.May(got) || marked(got) != want {
		t.Fatalf("%v: %v, %d, not %s", call, got, err, want)
	}
}

// line is a state in the model.
type line struct {
	neg           bool
	text          string
	caret, anchor int
}

// String is a line as it is marked.
func (l line) String() string {
	text := put(l.text, l.caret, "|")
	switch {
	case l.anchor < l.caret:
		text = put(text, l.anchor, "^")
	case l.anchor > l.caret:
		text = put(text, l.anchor+1, "^")
	}
	if l.neg {
		return "-" + text
	}
	return text
}

// state is a line's state.
func (l line) state() edit.State {
	d := made(l.text)
	d.Neg = l.neg
	return edit.State{D: d, Caret: l.caret, Anchor: l.anchor}
}

// span is what is selected in a line.
func (l line) span() (int, int) { return min(l.caret, l.anchor), max(l.caret, l.anchor) }

// full tells whether a text has more digits than the limits let.
func full(text string, l edit.Limits) bool {
	ahead, behind, _ := strings.Cut(text, ".")
	return len(ahead) > l.Int || len(behind) > l.Frac
}

// insert puts a text in a line.
func (l line) insert(m edit.Limits, with string) (line, api.Errno) {
	front, back := l.span()
	text := l.text[:front] + with + l.text[back:]
	switch {
	case strings.Contains(with, "/"):
		return line{}, api.ErrArg
	case strings.Count(text, ".") > 1:
		return line{}, api.ErrTwice
	case full(text, m):
		return line{}, api.ErrFull
	}
	return line{l.neg, text, front + len(with), front + len(with)}, api.OK
}

// clip puts a text in a line, with the sign or without.
func (l line) clip(m edit.Limits, neg bool, with string) (line, api.Errno) {
	to, err := l.insert(m, with)
	front, back := l.span()
	switch {
	case err != api.OK:
		return line{}, err
	case neg && (!m.Signed || front != 0):
		return line{}, api.ErrSign
	case neg:
		to.neg = true
	case l.text != "" && l.text[front:back] == l.text:
		to.neg = false
	}
	return to, api.OK
}

// The words at a text's end, and at its beginning.
var (
	wordAtEnd = regexp.MustCompile(`(\.|[0-9]+|)$`)
	wordAhead = regexp.MustCompile(`^(\.|[0-9]+|)`)
)

// reach is where the keys lead that have these numbers: Back and Left are 0.
func (l line) reach(how int) int {
	ahead, behind := l.text[:l.caret], l.text[l.caret:]
	return []int{
		len(ahead) - min(len(ahead), 1),
		len(ahead) + min(len(behind), 1),
		len(ahead) - len(wordAtEnd.FindString(ahead)),
		len(ahead) + len(wordAhead.FindString(behind)),
		0,
		len(l.text),
	}[how]
}

// erase takes atoms out of a line.
func (l line) erase(m edit.Limits, what int) (line, api.Errno) {
	to := l
	switch {
	case what < 0 || what > 6:
		return line{}, api.ErrArg
	case what == 6 && l.text == "" && !l.neg:
		return line{}, api.ErrNone
	case what == 6:
		to = line{}
	case l.caret != l.anchor:
		front, back := l.span()
		to.text, to.caret = l.text[:front]+l.text[back:], front
	case l.reach(what) == l.caret:
		return line{}, api.ErrNone
	case l.reach(what) < l.caret:
		to.text, to.caret = l.text[:l.reach(what)]+l.text[l.caret:], l.reach(what)
	default:
		to.text = l.text[:l.caret] + l.text[l.reach(what):]
	}
	if full(to.text, m) {
		return line{}, api.ErrFull
	}
	to.anchor = to.caret
	return to, api.OK
}

// move moves a line's caret.
func (l line) move(how int, keep bool) (line, api.Errno) {
	if how < 0 || how > 5 {
		return line{}, api.ErrArg
	}
	to := l
	to.caret = l.reach(how)
	if keep {
		return to, api.OK
	}
	if front, back := l.span(); front != back && how < 2 {
		to.caret = []int{front, back}[how]
	}
	to.anchor = to.caret
	return to, api.OK
}

// eachText tells every text of up to so many of these bytes.
func eachText(of string, most int, tell func(text string)) {
	var longer func(text string)
	longer = func(text string) {
		tell(text)
		if len(text) == most {
			return
		}
		for _, b := range []byte(of) {
			longer(text + string(b))
		}
	}
	longer("")
}

// lines is every state whose draft has up to so many atoms.
func lines(most int) []line {
	var all []line
	eachText("07.", most, func(text string) {
		if strings.Count(text, ".") > 1 {
			return
		}
		for caret := range len(text) + 1 {
			for anchor := range len(text) + 1 {
				all = append(all, line{false, text, caret, anchor}, line{true, text, caret, anchor})
			}
		}
	})
	return all
}

// limits is small limits, with the sign and without, and some that let no digit be.
func limits() []edit.Limits {
	var all []edit.Limits
	for _, signed := range []bool{true, false} {
		for whole := range 5 {
			for rest := range 4 {
				all = append(all, edit.Limits{Int: whole, Frac: rest, Signed: signed})
			}
		}
		all = append(all, edit.Limits{Int: -1, Frac: 5, Signed: signed}, edit.Limits{Int: 5, Frac: -1, Signed: signed},
			edit.Limits{Int: lowest, Frac: highest, Signed: signed}, edit.Limits{Int: highest, Frac: highest, Signed: signed})
	}
	return all
}

// wrong is states that may not be: by the draft, by the caret, by the anchor.
func wrong() []edit.State {
	var all []edit.State
	for _, d := range []draft.Draft{{Frac: []int{1}}, {Neg: true, Int: []int{1}, Frac: []int{0}}, {Int: []int{10}}, {Int: []int{1, -1}}, {Sep: true, Frac: []int{10}},
		{Int: []int{1}, Sep: true, Frac: []int{1, highest}}, {Int: []int{lowest}}} {
		n := len(d.Int) + len(d.Frac)
		all = append(all, edit.State{D: d}, edit.State{D: d, Caret: n, Anchor: n}, edit.State{D: d, Caret: 0, Anchor: n}, edit.State{D: d, Caret: -1, Anchor: 99})
	}
	for _, text := range []string{"", "-", "1", ".", "12.5", "-12", ".5"} {
		n := len(strings.TrimPrefix(text, "-"))
		for _, x := range []int{-1, n + 1, n + 2, 1<<32 + n, -1 << 32, lowest, highest} {
			for _, right := range []int{0, n} {
				all = append(all, edit.State{D: made(text), Caret: x, Anchor: right}, edit.State{D: made(text), Caret: right, Anchor: x})
			}
			all = append(all, edit.State{D: made(text), Caret: x, Anchor: x})
		}
	}
	return all
}

// What the other tests go through is what it is meant to be.
func TestModel(t *testing.T) {
	all := lines(2)
	// One text of none, three of one, eight of two, each with two signs.
	if len(all) != 2*(1+3*4+8*9) {
		t.Error(len(all))
	}
	told := map[string]bool{}
	for _, l := range all {
		told[l.String()] = true
		if s := state(l.String()); marked(s) != l.String() || marked(l.state()) != l.String() || s.Caret != l.caret || s.Anchor != l.anchor {
			t.Error(l, s)
		}
	}
	if len(told) != len(all) || !told["-0^.|"] || !told["|"] || !told["|7^"] {
		t.Error(len(told))
	}
	s := state("-1^2.|5")
	if !s.D.Neg || !slices.Equal(s.D.Int, []int{1, 2}) || !s.D.Sep || !slices.Equal(s.D.Frac, []int{5}) || s.Caret != 3 || s.Anchor != 1 {
		t.Error(s)
	}
}

// The numbers stand as they are told.
func TestNumbers(t *testing.T) {
	if !slices.Equal([]int{edit.Back, edit.Forward, edit.WordBack, edit.WordForward, edit.LineBack, edit.LineForward, edit.All}, []int{0, 1, 2, 3, 4, 5, 6}) {
		t.Error("erasings")
	}
	if !slices.Equal([]int{edit.Left, edit.Right, edit.WordLeft, edit.WordRight, edit.Home, edit.End}, []int{0, 1, 2, 3, 4, 5}) {
		t.Error("moves")
	}
}

func TestExamples(t *testing.T) {
	s, err := edit.Erase(state("12|.5"), wide, edit.WordBack)
	same(t, s, err, "|.5", api.OK)
	s, err = edit.Insert(state("1|2.5"), wide, 9)
	same(t, s, err, "19|2.5", api.OK)
}

// P19.1: the draft may be, and both stand from 0 to how many atoms there are.
func TestMay(t *testing.T) {
	for _, l := range lines(4) {
		s := l.state()
		if !edit.May(s) {
			t.Fatal(l)
		}
		n := len(l.text)
		for at := -3; at <= n+3; at++ {
			is := at >= 0 && at <= n
			if edit.May(edit.State{D: s.D, Caret: at, Anchor: l.anchor}) != is || edit.May(edit.State{D: s.D, Caret: l.caret, Anchor: at}) != is {
				t.Fatal(l, at)
			}
		}
	}
	if !edit.May(edit.State{}) || !edit.May(edit.State{D: draft.Draft{Int: []int{}, Frac: []int{}}}) {
		t.Error("the zero state")
	}
	long := draft.Draft{Int: make([]int, 3000), Sep: true, Frac: make([]int, 2000)}
	if !edit.May(edit.State{D: long, Caret: 5001, Anchor: 5001}) || edit.May(edit.State{D: long, Caret: 5002}) || edit.May(edit.State{D: long, Anchor: 5002}) {
		t.Error("a long one")
	}
	for _, s := range wrong() {
		if edit.May(s) {
			t.Error(s)
		}
	}
}

// P19.1: the lesser and the greater, and 0, 0 of what may not be.
func TestSpan(t *testing.T) {
	for _, l := range lines(3) {
		front, back := edit.Span(l.state())
		if front != min(l.caret, l.anchor) || back != max(l.caret, l.anchor) {
			t.Error(l, front, back)
		}
	}
	for _, s := range wrong() {
		if front, back := edit.Span(s); front != 0 || back != 0 {
			t.Error(s, front, back)
		}
	}
}

// P19.1: every field counts, of states that may not be too; nil and empty are one.
func TestSame(t *testing.T) {
	all := lines(2)
	for i, a := range all {
		for j, b := range all {
			if edit.Same(a.state(), b.state()) != (i == j) {
				t.Fatal(a, b)
			}
		}
	}
	if !edit.Same(edit.State{}, edit.State{D: draft.Draft{Int: []int{}, Frac: []int{}}}) {
		t.Error("empty")
	}
	for _, s := range wrong() {
		other := s
		other.Caret ^= 1
		if !edit.Same(s, s) || edit.Same(s, other) || edit.Same(other, s) {
			t.Error(s)
		}
		other = s
		other.Anchor ^= 1
		if edit.Same(s, other) || edit.Same(other, s) {
			t.Error(s)
		}
		other = s
		other.D.Neg = !other.D.Neg
		if edit.Same(s, other) || edit.Same(other, s) || edit.Same(s, edit.State{Caret: s.Caret, Anchor: s.Anchor, D: draft.Draft{Int: []int{4}}}) {
			t.Error(s)
		}
	}
}

// P19.2: atoms at both ends, at the separator, in the place of some and of all.
func TestInsert(t *testing.T) {
	for _, x := range []struct{ s, with, want string }{
		{"|", "", "|"}, {"-|", "", "-|"}, {"|", "7", "7|"}, {"-|", ".5", "-.5|"}, {"|", "12.50", "12.50|"}, {"12|", ".", "12.|"}, {"12.|", "5", "12.5|"},
		{"|12.5", "9", "9|12.5"}, {"12.5|", "9", "12.59|"}, {"12|.5", "9", "129|.5"}, {"12.|5", "9", "12.9|5"}, {"1|2", ".", "1.|2"}, {"|12", ".", ".|12"},
		{"^12.5|", "7", "7|"}, {"|12.5^", ".", ".|"}, {"-^12.5|", "7", "-7|"}, {"-|12.5^", "", "-|"}, {"12^.|5", "", "12|5"}, {"12|.^5", ".", "12.|5"},
		{"1^2.|5", "9", "19|5"}, {"1|2.^5", "3.4", "13.4|5"}, {"^1|2", "00", "00|2"}, {"|1^2", "", "|2"}, {"1|2.5", "", "1|2.5"}, {"-0|0", "0", "-00|0"},
	} {
		s, err := edit.Insert(state(x.s), wide, list(x.with)...)
		same(t, s, err, x.want, api.OK, x)
	}
}

// P19.2: each error, and which of some tells.
func TestInsertRefuses(t *testing.T) {
	none := edit.Limits{}
	for _, x := range []struct {
		s     string
		l     edit.Limits
		atoms []int
		fails api.Errno
	}{
		{"1|2", wide, []int{11}, api.ErrArg}, {"1|2", wide, []int{-1}, api.ErrArg}, {"1|2", wide, []int{1, 2, highest}, api.ErrArg}, {"1|2", wide, []int{lowest, 1}, api.ErrArg},
		{"1|2", wide, []int{1<<32 + 1}, api.ErrArg}, {"1|2.5", none, []int{10, 11}, api.ErrArg}, {"1|2", none, []int{10, 10, -1}, api.ErrArg}, {"12|", none, []int{1, 46}, api.ErrArg},
		{"1|2.5", wide, []int{10}, api.ErrTwice}, {"12.5|", wide, []int{10}, api.ErrTwice}, {"12|.5", wide, []int{10}, api.ErrTwice}, {"12.|5", wide, []int{10}, api.ErrTwice},
		{"^12|.5", wide, []int{10}, api.ErrTwice}, {"|", wide, []int{10, 10}, api.ErrTwice}, {"12^.|5", wide, []int{10, 1, 10}, api.ErrTwice}, {"1|2.5", none, []int{10, 1}, api.ErrTwice},
		{"|", none, []int{1}, api.ErrFull}, {"12|", edit.Limits{Int: 2}, []int{3}, api.ErrFull}, {".5|", edit.Limits{Int: 9, Frac: 1}, []int{3}, api.ErrFull},
		{"12^.|5", edit.Limits{Int: 2, Frac: 9}, nil, api.ErrFull}, {"1|23", edit.Limits{Int: 9, Frac: 1}, []int{10}, api.ErrFull}, {"123|", edit.Limits{Int: 2, Frac: 9}, nil, api.ErrFull},
		{"1^2.|5", edit.Limits{Int: 2, Frac: 1}, []int{1, 2}, api.ErrFull}, {"|", edit.Limits{Int: -1}, nil, api.ErrFull}, {"|", edit.Limits{Frac: -1}, []int{10}, api.ErrFull},
	} {
		s, err := edit.Insert(state(x.s), x.l, x.atoms...)
		same(t, s, err, "", x.fails, x)
		if x.fails != api.ErrFull {
			s, err = edit.Put(state(x.s), edit.Limits{}, paste.Clip{Neg: true, Atoms: x.atoms})
			same(t, s, err, "", x.fails, x)
		}
	}
}

// P19.2: as many digits as the limits let, and one more, ahead of the separator and behind it; neither it nor the sign counts.
func TestInsertMany(t *testing.T) {
	nines := func(n int) []int { return slices.Repeat([]int{9}, n) }
	most := slices.Concat(nines(64), []int{10}, nines(64))
	s, err := edit.Insert(edit.State{}, wide, most...)
	if err != api.OK || len(s.D.Int) != 64 || len(s.D.Frac) != 64 || !s.D.Sep || s.Caret != 129 || s.Anchor != 129 {
		t.Fatal(s, err)
	}
	for at := range 130 {
		one, err := edit.Select(s, at, at)
		if err != api.OK {
			t.Fatal(err)
		}
		got, err := edit.Insert(one, wide, 1)
		same(t, got, err, "", api.ErrFull, at)
		got, err = edit.Erase(one, wide, edit.Forward)
		fails := api.OK
		switch at {
		case 64:
			fails = api.ErrFull
		case 129:
			fails = api.ErrNone
		}
		if err != fails || err == api.OK && len(got.D.Int)+len(got.D.Frac) != 127 {
			t.Fatal(at, err)
		}
	}
	s, err = edit.Insert(edit.State{}, edit.Limits{Int: 5000, Frac: 5000}, nines(5000)...)
	if err != api.OK || len(s.D.Int) != 5000 || s.Caret != 5000 {
		t.Error(err)
	}
	s, err = edit.Insert(s, edit.Limits{Int: 5000, Frac: 5000}, 1)
	same(t, s, err, "", api.ErrFull)
}

// P19.2: the sign stays, comes, or goes with all atoms.
func TestPut(t *testing.T) {
	for _, x := range []struct {
		s    string
		neg  bool
		with string
		want string
	}{
		{"|", false, "", "|"}, {"|", true, "", "-|"}, {"|", true, "5", "-5|"}, {"|", false, "5", "5|"}, {"-|", false, "5", "-5|"}, {"-|", false, "", "-|"}, {"-|", true, "5", "-5|"},
		{"|12", true, "5", "-5|12"}, {"|12", true, "", "-|12"}, {"-|12", true, "5", "-5|12"}, {"-|12", false, "5", "-5|12"}, {"-12|", false, "5", "-125|"},
		{"^1|2", true, "5", "-5|2"}, {"|1^2", true, "", "-|2"}, {"-^1|2", false, "5", "-5|2"}, {"-1^2|", false, "5", "-15|"}, {"-|1^2", true, ".", "-.|2"},
		{"-^12|", false, "5", "5|"}, {"-|12^", false, "5", "5|"}, {"-^12|", true, "5", "-5|"}, {"-^12|", false, "", "|"}, {"-|1.5^", true, "", "-|"}, {"-^.|", false, ".", ".|"},
		{"^12|", false, "1.5", "1.5|"}, {"|12^", true, "1.5", "-1.5|"}, {"-^1|", false, "", "|"}, {"-^1|.", false, "", "-|."}, {"1|2.5", false, "", "1|2.5"},
	} {
		s, err := edit.Put(state(x.s), wide, paste.Clip{Neg: x.neg, Atoms: list(x.with)})
		same(t, s, err, x.want, api.OK, x)
	}
}

// P19.2: where there may be none, or not at the front, a clip's sign is refused, and behind all other errors.
func TestPutRefuses(t *testing.T) {
	unsigned := edit.Limits{Int: 2, Frac: 1}
	signed := edit.Limits{Int: 2, Frac: 1, Signed: true}
	for _, x := range []struct {
		s     string
		l     edit.Limits
		c     paste.Clip
		fails api.Errno
	}{
		{"|", unsigned, paste.Clip{Neg: true, Atoms: []int{1}}, api.ErrSign}, {"|", unsigned, paste.Clip{Neg: true}, api.ErrSign}, {"-|", unsigned, paste.Clip{Neg: true}, api.ErrSign},
		{"-^1|", unsigned, paste.Clip{Neg: true, Atoms: []int{1}}, api.ErrSign}, {"1|", signed, paste.Clip{Neg: true}, api.ErrSign}, {"-1|", signed, paste.Clip{Neg: true, Atoms: []int{1}}, api.ErrSign},
		{"1^2|", signed, paste.Clip{Neg: true, Atoms: []int{1}}, api.ErrSign}, {"1|2^", signed, paste.Clip{Neg: true, Atoms: []int{1}}, api.ErrSign}, {"1|2", unsigned, paste.Clip{Neg: true}, api.ErrSign},
		{"12|", unsigned, paste.Clip{Neg: true, Atoms: []int{1}}, api.ErrFull}, {"12|", signed, paste.Clip{Neg: true, Atoms: []int{1}}, api.ErrFull}, {"1|2.5", unsigned, paste.Clip{Neg: true, Atoms: []int{1}}, api.ErrFull},
		{"|", unsigned, paste.Clip{Neg: true, Atoms: []int{1, 2, 3}}, api.ErrFull}, {"1|.5", unsigned, paste.Clip{Neg: true, Atoms: []int{10}}, api.ErrTwice},
		{"1|.5", unsigned, paste.Clip{Neg: true, Atoms: []int{1, 1, 1, 10}}, api.ErrTwice}, {"1|.5", unsigned, paste.Clip{Neg: true, Atoms: []int{10, 1, 11}}, api.ErrArg},
		{"1|", signed, paste.Clip{Atoms: []int{-1}}, api.ErrArg}, {"12|", signed, paste.Clip{Atoms: []int{1}}, api.ErrFull},
	} {
		s, err := edit.Put(state(x.s), x.l, x.c)
		same(t, s, err, "", x.fails, x)
	}
	// Without a sign of its own a clip brings none that there may not be: one that is there stays.
	s, err := edit.Put(state("-1|"), unsigned, paste.Clip{Atoms: []int{2}})
	same(t, s, err, "-12|", api.OK)
}

// P19.3: what each erasing takes, where nothing is selected.
func TestErase(t *testing.T) {
	for _, x := range []struct {
		s    string
		what int
		want string
	}{
		{"12|.5", edit.Back, "1|.5"}, {"12.|5", edit.Back, "12|5"}, {"-1|", edit.Back, "-|"}, {"12.5|", edit.Back, "12.|"}, {"1|2", edit.Back, "|2"},
		{"12|.5", edit.Forward, "12|5"}, {"12.|5", edit.Forward, "12.|"}, {"-|1", edit.Forward, "-|"}, {"|12.5", edit.Forward, "|2.5"},
		{"12|.5", edit.WordBack, "|.5"}, {"12.|5", edit.WordBack, "12|5"}, {"12.56|", edit.WordBack, "12.|"}, {"12.5|6", edit.WordBack, "12.|6"}, {"1|2.5", edit.WordBack, "|2.5"},
		{"-123|", edit.WordBack, "-|"}, {".|", edit.WordBack, "|"}, {".|5", edit.WordBack, "|5"},
		{"12|.5", edit.WordForward, "12|5"}, {"|12.5", edit.WordForward, "|.5"}, {"1|2.5", edit.WordForward, "1|.5"}, {"12.|56", edit.WordForward, "12.|"}, {"12.5|6", edit.WordForward, "12.5|"},
		{"-|123", edit.WordForward, "-|"}, {"|.", edit.WordForward, "|"}, {"|.5", edit.WordForward, "|5"}, {"12|.", edit.WordForward, "12|"},
		{"12|.5", edit.LineBack, "|.5"}, {"12.|5", edit.LineBack, "|5"}, {"-12.5|", edit.LineBack, "-|"}, {"1|2.5", edit.LineBack, "|2.5"},
		{"12|.5", edit.LineForward, "12|"}, {"12.|5", edit.LineForward, "12.|"}, {"-|12.5", edit.LineForward, "-|"}, {"1|2.5", edit.LineForward, "1|"},
		{"12|.5", edit.All, "|"}, {"-12|.5", edit.All, "|"}, {"-|", edit.All, "|"}, {"-|12", edit.All, "|"}, {".|", edit.All, "|"},
	} {
		s, err := edit.Erase(state(x.s), wide, x.what)
		same(t, s, err, x.want, api.OK, x)
	}
}

// P19.3: what is selected goes, whichever erasing it is; but All takes all.
func TestEraseSelected(t *testing.T) {
	for _, x := range []struct{ s, want string }{
		{"^1|2.5", "|2.5"}, {"|1^2.5", "|2.5"}, {"1^2.|5", "1|5"}, {"1|2.^5", "1|5"}, {"-^12.5|", "-|"}, {"-|12.5^", "-|"}, {"12.^5|", "12.|"}, {"^12|", "|"}, {"-1|.^", "-1|"},
	} {
		for what := edit.Back; what <= edit.LineForward; what++ {
			s, err := edit.Erase(state(x.s), wide, what)
			same(t, s, err, x.want, api.OK, x, what)
		}
		s, err := edit.Erase(state(x.s), wide, edit.All)
		same(t, s, err, "|", api.OK, x)
	}
}

// P19.3: each error, and which of some tells.
func TestEraseRefuses(t *testing.T) {
	none := edit.Limits{Int: -1, Frac: -1}
	for _, what := range []int{-1, 7, 8, 1 << 32, -1 << 32, lowest, highest} {
		for _, s := range []string{"|", "-|", "12|.5", "^12.5|", "1|2^"} {
			got, err := edit.Erase(state(s), none, what)
			same(t, got, err, "", api.ErrArg, s, what)
		}
	}
	for _, x := range []struct {
		s    string
		what []int
	}{
		{"|", []int{0, 1, 2, 3, 4, 5, 6}}, {"-|", []int{0, 1, 2, 3, 4, 5}}, {"|12.5", []int{edit.Back, edit.WordBack, edit.LineBack}}, {"-|12.5", []int{edit.Back, edit.WordBack, edit.LineBack}},
		{"12.5|", []int{edit.Forward, edit.WordForward, edit.LineForward}}, {"-.|", []int{edit.Forward, edit.WordForward, edit.LineForward}},
	} {
		for _, what := range x.what {
			for _, l := range []edit.Limits{wide, none} {
				s, err := edit.Erase(state(x.s), l, what)
				same(t, s, err, "", api.ErrNone, x, what, l)
			}
		}
	}
	for _, x := range []struct {
		s    string
		l    edit.Limits
		what int
	}{
		{"12.|5", edit.Limits{Int: 2, Frac: 1}, edit.Back}, {"12|.5", edit.Limits{Int: 2, Frac: 1}, edit.Forward}, {"12.|5", edit.Limits{Int: 2, Frac: 1}, edit.WordBack}, {"12|.5", edit.Limits{Int: 2, Frac: 1}, edit.WordForward},
		{"12^.|56", edit.Limits{Int: 3, Frac: 2}, edit.LineBack}, {"12.|56", edit.Limits{Int: 1, Frac: 9}, edit.Forward}, {"1.234|", edit.Limits{Int: 9, Frac: 1}, edit.Back}, {"-1|", none, edit.All}, {"-|", none, edit.All},
	} {
		s, err := edit.Erase(state(x.s), x.l, x.what)
		same(t, s, err, "", api.ErrFull, x)
	}
}

// P19.4: where each move leads.
func TestMove(t *testing.T) {
	for _, x := range []struct {
		s          string
		how        int
		want, kept string
	}{
		{"12|.5", edit.Left, "1|2.5", "1|2^.5"}, {"|12", edit.Left, "|12", "|12"}, {"-|", edit.Left, "-|", "-|"}, {"12|.5", edit.Right, "12.|5", "12^.|5"}, {"12|", edit.Right, "12|", "12|"},
		{"12|.5", edit.WordLeft, "|12.5", "|12^.5"}, {"12.|5", edit.WordLeft, "12|.5", "12|.^5"}, {"12.56|", edit.WordLeft, "12.|56", "12.|56^"}, {"-|1", edit.WordLeft, "-|1", "-|1"},
		{"12|.5", edit.WordRight, "12.|5", "12^.|5"}, {"|12.5", edit.WordRight, "12|.5", "^12|.5"}, {"12.|56", edit.WordRight, "12.56|", "12.^56|"}, {"-1|", edit.WordRight, "-1|", "-1|"},
		{"12|.5", edit.Home, "|12.5", "|12^.5"}, {"|", edit.Home, "|", "|"}, {"12|.5", edit.End, "12.5|", "12^.5|"}, {"-.|", edit.End, "-.|", "-.|"},
		{"1^2.|5", edit.Left, "1|2.5", "1^2|.5"}, {"1|2.^5", edit.Left, "1|2.5", "|12.^5"}, {"1^2.|5", edit.Right, "12.|5", "1^2.5|"}, {"1|2.^5", edit.Right, "12.|5", "12|.^5"},
		{"|12.5^", edit.Left, "|12.5", "|12.5^"}, {"^12.5|", edit.Right, "12.5|", "^12.5|"}, {"1^2.|5", edit.WordLeft, "12|.5", "1^2|.5"}, {"1|2.^5", edit.WordLeft, "|12.5", "|12.^5"},
		{"1^2.|5", edit.WordRight, "12.5|", "1^2.5|"}, {"1|2.^5", edit.WordRight, "12|.5", "12|.^5"}, {"1^2.|5", edit.Home, "|12.5", "|1^2.5"}, {"1|2.^5", edit.End, "12.5|", "12.^5|"},
		{"1^2|", edit.Left, "1|2", "1|2"}, {"1|2^", edit.Right, "12|", "12|"},
	} {
		s, err := edit.Move(state(x.s), x.how, false)
		same(t, s, err, x.want, api.OK, x)
		s, err = edit.Move(state(x.s), x.how, true)
		same(t, s, err, x.kept, api.OK, x, "keep")
	}
	for _, how := range []int{-1, 6, 7, 1 << 32, -1 << 32, lowest, highest} {
		for _, s := range []string{"|", "12|.5", "^12.5|"} {
			for _, keep := range []bool{false, true} {
				got, err := edit.Move(state(s), how, keep)
				same(t, got, err, "", api.ErrArg, s, how, keep)
			}
		}
	}
}

// P19.4: both stand where they are told to, or it is refused.
func TestSelect(t *testing.T) {
	for _, l := range lines(3) {
		for anchor := -2; anchor <= len(l.text)+2; anchor++ {
			for caret := -2; caret <= len(l.text)+2; caret++ {
				to, fails := line{}, api.ErrRange
				if min(anchor, caret) >= 0 && max(anchor, caret) <= len(l.text) {
					to, fails = line{l.neg, l.text, caret, anchor}, api.OK
				}
				s, err := edit.Select(l.state(), anchor, caret)
				same(t, s, err, to.String(), fails, l, anchor, caret)
			}
		}
	}
	for _, x := range []int{lowest, highest, 1 << 32, -1 << 32, 5} {
		s, err := edit.Select(state("12|.5"), x, 0)
		same(t, s, err, "", api.ErrRange, x)
		s, err = edit.Select(state("12|.5"), 0, x)
		same(t, s, err, "", api.ErrRange, x)
	}
}

// P19.4: the sign comes and goes; caret, anchor and atoms stay.
func TestToggle(t *testing.T) {
	for _, l := range lines(3) {
		to := l
		to.neg = !l.neg
		for _, m := range limits() {
			fails := api.ErrSign
			if m.Signed {
				fails = api.OK
			}
			s, err := edit.Toggle(l.state(), m)
			same(t, s, err, to.String(), fails, l, m)
		}
	}
}

// P19.1 to P19.4: of a state that may not be, all else does not count.
func TestWrong(t *testing.T) {
	for _, s := range wrong() {
		for _, l := range []edit.Limits{wide, {}, {Int: -1, Frac: -1}} {
			for _, atoms := range [][]int{nil, {1}, {10, 10}, {11}} {
				got, err := edit.Insert(s, l, atoms...)
				same(t, got, err, "", api.ErrArg, "Insert", s, atoms)
				for _, neg := range []bool{false, true} {
					got, err = edit.Put(s, l, paste.Clip{Neg: neg, Atoms: atoms})
					same(t, got, err, "", api.ErrArg, "Put", s, atoms, neg)
				}
			}
			for n := -1; n <= 7; n++ {
				got, err := edit.Erase(s, l, n)
				same(t, got, err, "", api.ErrArg, "Erase", s, n)
				for _, keep := range []bool{false, true} {
					got, err = edit.Move(s, n, keep)
					same(t, got, err, "", api.ErrArg, "Move", s, n, keep)
				}
				got, err = edit.Select(s, n, 0)
				same(t, got, err, "", api.ErrArg, "Select", s, n)
				got, err = edit.Select(s, 0, n)
				same(t, got, err, "", api.ErrArg, "Select", s, n)
			}
			got, err := edit.Toggle(s, l)
			same(t, got, err, "", api.ErrArg, "Toggle", s)
		}
	}
}

// P19.2: every short text in every short state, by small limits.
func TestInsertEach(t *testing.T) {
	var with []string
	eachText("7./", 2, func(text string) { with = append(with, text) })
	with = append(with, "077", "7.7", ".07", "77.")
	bounds := limits()
	for _, l := range lines(3) {
		for _, m := range bounds {
			for _, w := range with {
				to, fails := l.insert(m, w)
				s, err := edit.Insert(l.state(), m, list(w)...)
				same(t, s, err, to.String(), fails, "Insert", l, m, w)
				for _, neg := range []bool{false, true} {
					to, fails = l.clip(m, neg, w)
					s, err = edit.Put(l.state(), m, paste.Clip{Neg: neg, Atoms: list(w)})
					same(t, s, err, to.String(), fails, "Put", l, m, neg, w)
				}
			}
		}
	}
}

// P19.3: every erasing in every short state, by small limits.
func TestEraseEach(t *testing.T) {
	bounds := limits()
	for _, l := range lines(4) {
		for _, m := range bounds {
			for what := -1; what <= 7; what++ {
				to, fails := l.erase(m, what)
				s, err := edit.Erase(l.state(), m, what)
				same(t, s, err, to.String(), fails, l, m, what)
			}
		}
	}
}

// P19.4, P19.5: every move in every short state; the draft stays as it is.
func TestMoveEach(t *testing.T) {
	for _, l := range lines(5) {
		for how := -1; how <= 6; how++ {
			for _, keep := range []bool{false, true} {
				to, fails := l.move(how, keep)
				s, err := edit.Move(l.state(), how, keep)
				same(t, s, err, to.String(), fails, l, how, keep)
				if err == api.OK && !draft.Same(s.D, l.state().D) {
					t.Fatal(l, how, keep)
				}
			}
		}
	}
}

// keys is what keys do with a state, by limits.
func keys(s edit.State, l edit.Limits) []edit.State {
	var all []edit.State
	add := func(s edit.State, err api.Errno) {
		if err == api.OK {
			all = append(all, s)
		}
	}
	for _, atoms := range [][]int{nil, {0}, {7}, {10}, {7, 10, 0}} {
		add(edit.Insert(s, l, atoms...))
		add(edit.Put(s, l, paste.Clip{Atoms: atoms}))
		add(edit.Put(s, l, paste.Clip{Neg: true, Atoms: atoms}))
	}
	for n := range 7 {
		add(edit.Erase(s, l, n))
		add(edit.Move(s, n, false))
		add(edit.Move(s, n, true))
		add(edit.Select(s, n, 0))
		add(edit.Select(s, 0, n))
	}
	add(edit.Toggle(s, l))
	return all
}

// P19.5: from the empty state on all that comes is within the limits, and all that is within them can come.
func TestWithin(t *testing.T) {
	for _, m := range []edit.Limits{{Int: 2, Frac: 1, Signed: true}, {Int: 2, Frac: 1}, {Int: 1, Frac: 2, Signed: true}, {Int: 3}, {Int: 0, Frac: 2, Signed: true}, {Signed: true}} {
		within := map[string]bool{}
		for _, l := range lines(m.Int + 1 + m.Frac) {
			if !full(l.text, m) && (m.Signed || !l.neg) {
				within[l.String()] = true
			}
		}
		come := map[string]bool{"|": true}
		for work := []edit.State{{}}; len(work) > 0; work = work[1:] {
			for _, s := range keys(work[0], m) {
				text := marked(s)
				if !within[text] {
					t.Fatalf("%v: %s comes of %s", m, text, marked(work[0]))
				}
				if !come[text] {
					come[text] = true
					work = append(work, s)
				}
			}
		}
		if len(come) != len(within) {
			t.Errorf("%v: %d come of %d", m, len(come), len(within))
		}
	}
}

// spoil writes over a list, its spare room too.
func spoil(l []int) {
	l = l[:cap(l)]
	for i := range l {
		l[i] = 77
	}
}

// R4: what is handed in is not written into, nor its spare room, and what is answered has its own memory.
func TestMemory(t *testing.T) {
	// Behind each list there is room in which something stands.
	roomy := func(l []int) []int { return append(slices.Clone(l), 5, 6, 7, 8)[:len(l)] }
	for _, l := range []line{{false, "12.5", 1, 3}, {true, "12.5", 2, 2}, {false, "1", 0, 0}, {true, ".5", 1, 0}, {false, "", 0, 0}, {true, "777", 0, 3}, {false, "12.", 3, 3}} {
		s := l.state()
		s.D.Int, s.D.Frac = roomy(s.D.Int), roomy(s.D.Frac)
		atoms := roomy([]int{7})
		clip := paste.Clip{Atoms: atoms}
		rooms := [][]int{s.D.Int[:cap(s.D.Int)], s.D.Frac[:cap(s.D.Frac)], atoms[:cap(atoms)]}
		before := [][]int{slices.Clone(rooms[0]), slices.Clone(rooms[1]), slices.Clone(rooms[2])}
		check := func(got edit.State, err api.Errno) {
			t.Helper()
			if err != api.OK {
				return
			}
			was := marked(got)
			ahead := slices.Clone(got.D.Int)
			spoil(got.D.Frac)
			if !slices.Equal(got.D.Int, ahead) {
				t.Fatalf("%s: its lists share memory", was)
			}
			spoil(got.D.Int)
			for i := range rooms {
				if !slices.Equal(rooms[i], before[i]) {
					t.Fatalf("%v: %v, not %v", l, rooms[i], before[i])
				}
			}
		}
		check(edit.Insert(s, wide, atoms...))
		check(edit.Insert(s, wide))
		check(edit.Put(s, wide, clip))
		check(edit.Put(s, wide, paste.Clip{Neg: true, Atoms: atoms}))
		for n := range 7 {
			check(edit.Erase(s, wide, n))
			check(edit.Move(s, n, false))
			check(edit.Move(s, n, true))
		}
		check(edit.Select(s, 0, 0))
		check(edit.Select(s, s.Caret, s.Anchor))
		check(edit.Toggle(s, wide))
		if !edit.May(s) || marked(s) != l.String() || !edit.Same(s, l.state()) || !paste.Same(clip, paste.Clip{Atoms: []int{7}}) {
			t.Fatal(l, s)
		}
	}
}

// R4: drafts whose lists stand one behind the other in one piece of memory.
func TestMemoryShared(t *testing.T) {
	one := []int{1, 2, 5, 6}
	s := edit.State{D: draft.Draft{Int: one[:2], Sep: true, Frac: one[2:]}, Caret: 2, Anchor: 2}
	got, err := edit.Insert(s, wide, 9)
	same(t, got, err, "129|.56", api.OK)
	got, err = edit.Move(s, edit.Left, true)
	same(t, got, err, "1|2^.56", api.OK)
	if len(got.D.Int) == 2 {
		got.D.Int = append(got.D.Int, 8)
		spoil(got.D.Int)
	}
	if !slices.Equal(one, []int{1, 2, 5, 6}) || !slices.Equal(got.D.Frac, []int{5, 6}) {
		t.Error(one, got)
	}
}

// R4: a selection's atoms can be handed in again as they stand in the draft itself.
func TestOwnAtoms(t *testing.T) {
	s := state("^12|.5")
	got, err := edit.Insert(s, wide, s.D.Int...)
	same(t, got, err, "12|.5", api.OK)
	got, err = edit.Put(state("12|.5"), wide, paste.Clip{Atoms: s.D.Frac})
	same(t, got, err, "125|.5", api.OK)
}
