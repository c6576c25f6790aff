package place_test

import (
	"regexp"
	"strings"
	"testing"

	"abacist/class"
	"abacist/cluster"
	"abacist/place"
	"abacist/utf"
)

const (
	low  = -1 << 63
	high = 1<<63 - 1
)

// numbers are all that may be asked of a text with so many: those that there
// are, those beside them, and such as are theirs but for the high bits.
func numbers(n int) []int {
	l := []int{low, low + 1, -1 << 32, -2, -1}
	for i := range n + 1 {
		l = append(l, i)
	}
	return append(l, n+1, n+2, 1<<31, 1<<32, 1<<32+1, high-1, high)
}

// check holds all that a map tells against what the chapter says of its text.
func check(t *testing.T, m *place.Map, s string) {
	t.Helper()
	parts := cluster.Split(s)
	if m.Text() != s || m.Len() != len(parts) {
		t.Fatalf("%+q: %+q, %d", s, m.Text(), m.Len())
	}
	checkOffsets(t, m, parts, s)
	checkPlaces(t, m, parts, s)
	checkClusters(t, m, parts, s)
	checkWords(t, m, parts, s)
}

// offsets is where the clusters begin, and where the text ends.
func offsets(parts []string) []int {
	l := []int{0}
	for i := range parts {
		l = append(l, len(strings.Join(parts[:i+1], "")))
	}
	return l
}

func checkOffsets(t *testing.T, m *place.Map, parts []string, s string) {
	t.Helper()
	is := offsets(parts)
	for _, i := range numbers(len(parts)) {
		want, ok := 0, i >= 0 && i <= len(parts)
		if ok {
			want = is[i]
		}
		if off, has := m.Offset(i); off != want || has != ok {
			t.Fatalf("%+q: Offset(%d): %d, %t", s, i, off, has)
		}
	}
}

func checkPlaces(t *testing.T, m *place.Map, parts []string, s string) {
	t.Helper()
	is := offsets(parts)
	for _, off := range numbers(len(s)) {
		index, has, floor, ceil := 0, false, 0, len(parts)
		for i, x := range is {
			if x == off {
				index, has = i, true
			}
			if x <= off {
				floor = i
			}
		}
		for i := len(parts); i >= 0; i-- {
			if is[i] >= off {
				ceil = i
			}
		}
		if i, ok := m.Index(off); i != index || ok != has {
			t.Fatalf("%+q: Index(%d): %d, %t", s, off, i, ok)
		}
		if i := m.Floor(off); i != floor {
			t.Fatalf("%+q: Floor(%d): %d", s, off, i)
		}
		if i := m.Ceil(off); i != ceil {
			t.Fatalf("%+q: Ceil(%d): %d", s, off, i)
		}
	}
}

func checkClusters(t *testing.T, m *place.Map, parts []string, s string) {
	t.Helper()
	for _, i := range numbers(len(parts)) {
		want, ok := "", i >= 0 && i < len(parts)
		if ok {
			want = parts[i]
		}
		if c, has := m.Cluster(i); c != want || has != ok {
			t.Fatalf("%+q: Cluster(%d): %+q, %t", s, i, c, has)
		}
		for _, j := range numbers(len(parts)) {
			want, ok := "", i >= 0 && i <= j && j <= len(parts)
			if ok {
				want = strings.Join(parts[i:j], "")
			}
			if c, has := m.Slice(i, j); c != want || has != ok {
				t.Fatalf("%+q: Slice(%d, %d): %+q, %t", s, i, j, c, has)
			}
		}
	}
}

// A word, of letters that stand for blank clusters and others.
var (
	toRight = regexp.MustCompile(`^b*o*`)
	toLeft  = regexp.MustCompile(`o*b*$`)
)

// row is a letter for each cluster.
func row(parts []string) string {
	var b strings.Builder
	for _, p := range parts {
		if class.Blank(utf.All(p)[0]) {
			b.WriteByte('b')
		} else {
			b.WriteByte('o')
		}
	}
	return b.String()
}

func checkWords(t *testing.T, m *place.Map, parts []string, s string) {
	t.Helper()
	r := row(parts)
	for _, i := range numbers(len(parts)) {
		from := i
		if i < 0 {
			from = 0
		} else if i > len(parts) {
			from = len(parts)
		}
		right := from + len(toRight.FindString(r[from:]))
		left := toLeft.FindStringIndex(r[:from])[0]
		if n := m.Word(i, true); n != right {
			t.Fatalf("%+q: Word(%d, true): %d", s, i, n)
		}
		if n := m.Word(i, false); n != left {
			t.Fatalf("%+q: Word(%d, false): %d", s, i, n)
		}
	}
}

// checkSplices holds a text's maps with t in the place of each of its slices
// against the texts that they must be of.
func checkSplices(t *testing.T, s, with string) {
	t.Helper()
	m := place.New(s)
	parts := cluster.Split(s)
	for _, i := range numbers(len(parts)) {
		for _, j := range numbers(len(parts)) {
			n, has := m.Splice(i, j, with)
			if has != (i >= 0 && i <= j && j <= len(parts)) || has != (n != nil) {
				t.Fatalf("%+q: Splice(%d, %d, %+q): %t, %v", s, i, j, with, has, n)
			}
			if has {
				check(t, n, strings.Join(parts[:i], "")+with+strings.Join(parts[j:], ""))
			}
		}
	}
	check(t, m, s)
}

// eachText tells every text of at most so many of the pieces.
func eachText(of []string, n int, tell func(s string)) {
	var put func(s string, left int)
	put = func(s string, left int) {
		tell(s)
		if left == 0 {
			return
		}
		for _, x := range of {
			put(s+x, left-1)
		}
	}
	put("", n)
}

// P4.1: the chapter's example, its edges, and wrong numbers.
func TestOffset(t *testing.T) {
	m := place.New("e\u0301x")
	if m.Text() != "e\u0301x" || m.Len() != 2 {
		t.Error(m.Text(), m.Len())
	}
	for _, x := range []struct {
		i, want int
		ok      bool
	}{
		{0, 0, true}, {1, 3, true}, {2, 4, true}, {3, 0, false}, {-1, 0, false}, {low, 0, false}, {high, 0, false},
		{1 << 32, 0, false}, {1<<32 + 1, 0, false},
	} {
		if off, ok := m.Offset(x.i); off != x.want || ok != x.ok {
			t.Errorf("Offset(%d): %d, %t", x.i, off, ok)
		}
	}
}

// P4.1: within a cluster, at its ends, ahead of the text and behind it.
func TestIndexFloorCeil(t *testing.T) {
	m := place.New("e\u0301x")
	for _, x := range []struct {
		off, index  int
		has         bool
		floor, ceil int
	}{
		{0, 0, true, 0, 0}, {1, 0, false, 0, 1}, {2, 0, false, 0, 1}, {3, 1, true, 1, 1}, {4, 2, true, 2, 2},
		{5, 0, false, 2, 2}, {-1, 0, false, 0, 0}, {low, 0, false, 0, 0}, {high, 0, false, 2, 2}, {1<<32 + 3, 0, false, 2, 2},
	} {
		if i, ok := m.Index(x.off); i != x.index || ok != x.has {
			t.Errorf("Index(%d): %d, %t", x.off, i, ok)
		}
		if i := m.Floor(x.off); i != x.floor {
			t.Errorf("Floor(%d): %d", x.off, i)
		}
		if i := m.Ceil(x.off); i != x.ceil {
			t.Errorf("Ceil(%d): %d", x.off, i)
		}
	}
}

// P4.1, P4.2: of the empty text there is the end alone.
func TestEmpty(t *testing.T) {
	m := place.New("")
	if m.Text() != "" || m.Len() != 0 {
		t.Error(m.Text(), m.Len())
	}
	if off, ok := m.Offset(0); off != 0 || !ok {
		t.Error(off, ok)
	}
	if i, ok := m.Index(0); i != 0 || !ok {
		t.Error(i, ok)
	}
	if s, ok := m.Slice(0, 0); s != "" || !ok {
		t.Error(s, ok)
	}
	if s, ok := m.Cluster(0); s != "" || ok {
		t.Error(s, ok)
	}
	if m.Floor(7) != 0 || m.Ceil(7) != 0 || m.Word(0, true) != 0 || m.Word(0, false) != 0 {
		t.Error(m.Floor(7), m.Ceil(7), m.Word(0, true), m.Word(0, false))
	}
	check(t, m, "")
	checkSplices(t, "", "1 \u20ac")
	checkSplices(t, "", "")
}

// P4.2: clusters, and clusters together; none where there is none.
func TestClusterAndSlice(t *testing.T) {
	m := place.New("-1\u20ac\u0301\r\n\xff")
	for _, x := range []struct {
		i    int
		want string
		ok   bool
	}{
		{0, "-", true}, {1, "1", true}, {2, "\u20ac\u0301", true}, {3, "\r\n", true}, {4, "\xff", true},
		{5, "", false}, {-1, "", false}, {low, "", false}, {high, "", false}, {1 << 32, "", false},
	} {
		if s, ok := m.Cluster(x.i); s != x.want || ok != x.ok {
			t.Errorf("Cluster(%d): %+q, %t", x.i, s, ok)
		}
	}
	for _, x := range []struct {
		i, j int
		want string
		ok   bool
	}{
		{0, 5, "-1\u20ac\u0301\r\n\xff", true}, {0, 0, "", true}, {5, 5, "", true}, {2, 2, "", true}, {1, 3, "1\u20ac\u0301", true},
		{2, 5, "\u20ac\u0301\r\n\xff", true}, {2, 1, "", false}, {5, 4, "", false}, {0, 6, "", false}, {6, 6, "", false},
		{-1, 0, "", false}, {-1, -1, "", false}, {-1, 5, "", false}, {low, high, "", false}, {high, low, "", false},
		{0, 1<<32 + 1, "", false}, {high, high, "", false},
	} {
		if s, ok := m.Slice(x.i, x.j); s != x.want || ok != x.ok {
			t.Errorf("Slice(%d, %d): %+q, %t", x.i, x.j, s, ok)
		}
	}
}

// P4.2: blanks first, then others, then no further; both ways.
func TestWord(t *testing.T) {
	for _, x := range []struct {
		s           string
		i           int
		right, left int
	}{
		{"ab  cd e", 0, 2, 0}, {"ab  cd e", 1, 2, 0}, {"ab  cd e", 2, 6, 0}, {"ab  cd e", 3, 6, 0}, {"ab  cd e", 4, 6, 0},
		{"ab  cd e", 5, 6, 4}, {"ab  cd e", 6, 8, 4}, {"ab  cd e", 7, 8, 4}, {"ab  cd e", 8, 8, 7},
		{"ab  cd e", -1, 2, 0}, {"ab  cd e", low, 2, 0}, {"ab  cd e", 9, 8, 7}, {"ab  cd e", high, 8, 7},
		{"ab  cd e", 1 << 32, 8, 7},
		{"   ", 0, 3, 0}, {"   ", 1, 3, 0}, {"   ", 3, 3, 0}, {"abc", 0, 3, 0}, {"abc", 3, 3, 0},
		{"  ab  ", 0, 4, 0}, {"  ab  ", 2, 4, 0}, {"  ab  ", 4, 6, 2}, {"  ab  ", 6, 6, 2},
		// Each blank is one, and the two of an end of line are one cluster.
		{"1\u00a0\u2009\u202f\t\v\f2", 1, 8, 0}, {"1\r\n2", 1, 3, 0}, {"1\r\n2", 2, 3, 0}, {"1\n\r2", 2, 4, 0},
		// What joins a blank leaves it one; a blank that joins what stands ahead makes none.
		{"1 \u03012", 1, 3, 0}, {"1 \u03012", 2, 3, 0}, {"1\u0600 2", 1, 3, 0}, {"1\u0600 2", 2, 3, 0},
		{"1 \u0600 2", 1, 4, 0}, {"1 \u0600 2", 4, 4, 2},
		// Spoilt bytes, and signs that only look blank, are none.
		{"1\xa0 2", 0, 2, 0}, {"1\xa0 2", 4, 4, 3}, {"1\u3000\u20002", 0, 4, 0}, {"\xc2 \xa0", 0, 1, 0},
	} {
		m := place.New(x.s)
		if n := m.Word(x.i, true); n != x.right {
			t.Errorf("%+q: Word(%d, true): %d", x.s, x.i, n)
		}
		if n := m.Word(x.i, false); n != x.left {
			t.Errorf("%+q: Word(%d, false): %d", x.s, x.i, n)
		}
		check(t, m, x.s)
	}
}

// P4.3: what stands there is put out, t is put in; where there is none, none is.
func TestSplice(t *testing.T) {
	for _, x := range []struct {
		s    string
		i, j int
		t    string
		want string
		n    int
		ok   bool
	}{
		{"1234", 1, 3, ",", "1,4", 3, true}, {"1234", 0, 4, "", "", 0, true}, {"1234", 0, 0, "-", "-1234", 5, true},
		{"1234", 4, 4, "\u20ac", "1234\u20ac", 5, true}, {"1234", 2, 2, "", "1234", 4, true}, {"1234", 0, 4, "9", "9", 1, true},
		// t joins what stands beside it, and so may what stood apart.
		{"ex", 1, 1, "\u0301", "e\u0301x", 2, true}, {"1\n", 1, 1, "\r", "1\r\n", 2, true}, {"\r1\n", 1, 2, "", "\r\n", 1, true},
		{"\u0301", 0, 0, "e", "e\u0301", 1, true}, {"1x2", 1, 2, "\u0600", "1\u06002", 2, true},
		{"\U0001f1e9x\U0001f1ea", 1, 2, "", "\U0001f1e9\U0001f1ea", 1, true},
		{"\U0001f1e9\U0001f1ea\U0001f1eb", 0, 0, "\U0001f1ec", "\U0001f1ec\U0001f1e9\U0001f1ea\U0001f1eb", 2, true},
		// Spoilt bytes may make a character.
		{"\xe2\xac", 1, 1, "\x82", "\u20ac", 1, true}, {"\u20ac", 0, 1, "\xe2\x82", "\xe2\x82", 2, true},
		{"1234", -1, 2, ",", "", 0, false}, {"1234", 3, 2, ",", "", 0, false}, {"1234", 0, 5, ",", "", 0, false},
		{"1234", 5, 5, ",", "", 0, false}, {"1234", low, high, ",", "", 0, false}, {"1234", high, low, ",", "", 0, false},
		{"1234", 0, 1<<32 + 2, ",", "", 0, false}, {"e\u0301x", 0, 3, "", "", 0, false}, {"", 0, 1, "", "", 0, false},
	} {
		m := place.New(x.s)
		n, ok := m.Splice(x.i, x.j, x.t)
		if ok != x.ok || (n != nil) != x.ok {
			t.Errorf("%+q: Splice(%d, %d, %+q): %v, %t", x.s, x.i, x.j, x.t, n, ok)
			continue
		}
		if ok && (n.Text() != x.want || n.Len() != x.n) {
			t.Errorf("%+q: Splice(%d, %d, %+q): %+q, %d", x.s, x.i, x.j, x.t, n.Text(), n.Len())
		}
		check(t, m, x.s)
	}
}

// P4.3, R4: a map stays as it is, whatever is made of it, and of that.
func TestSpliceLeavesMap(t *testing.T) {
	const s = "e\u0301x 12 \u20ac"
	m := place.New(s)
	var made []*place.Map
	for i := range m.Len() + 1 {
		for j := i; j <= m.Len(); j++ {
			n, _ := m.Splice(i, j, "ab")
			made = append(made, n)
		}
	}
	texts := make([]string, len(made))
	for i, n := range made {
		texts[i] = n.Text()
		if n == m {
			t.Fatal("the same map")
		}
		if again, ok := n.Splice(0, n.Len(), "9 9"); !ok || again.Text() != "9 9" {
			t.Fatal(again.Text())
		}
	}
	for i, n := range made {
		check(t, n, texts[i])
	}
	check(t, m, s)
	same, ok := m.Splice(0, 0, "")
	if !ok || same == m || same.Text() != s {
		t.Error(same.Text(), ok)
	}
}

// P4.1 to P4.4: every short text of what joins, what is blank and what is spoilt.
func TestEachText(t *testing.T) {
	of := []string{"1", " ", "\u00a0", "\u0301", "\u0600", "\r", "\n", "\U0001f1e9", "\xe2"}
	eachText(of, 5, func(s string) { check(t, place.New(s), s) })
}

// P4.2: every row of blank clusters and others.
func TestEachWord(t *testing.T) {
	eachText([]string{"a", " "}, 11, func(s string) {
		checkWords(t, place.New(s), cluster.Split(s), s)
	})
}

// P4.3: every short text in the place of every slice of another.
func TestEachSplice(t *testing.T) {
	of := []string{"1", " ", "\u0301", "\u0600", "\r", "\n", "\U0001f1e9", "\xcc", "\x81"}
	var with []string
	eachText(of, 1, func(s string) { with = append(with, s) })
	eachText(of, 3, func(s string) {
		for _, x := range with {
			checkSplices(t, s, x)
		}
	})
}

// P4.4: offsets rise, and Index is their way back.
func TestWayBack(t *testing.T) {
	of := []string{"1", "\u20ac", "\u0301", "\r", "\n", "\u0600", "\U0001f1e9", "\xff"}
	eachText(of, 5, func(s string) {
		m := place.New(s)
		last := -1
		for i := range m.Len() + 1 {
			off, ok := m.Offset(i)
			if !ok || off <= last {
				t.Fatalf("%+q: Offset(%d): %d, %t", s, i, off, ok)
			}
			if back, ok := m.Index(off); back != i || !ok {
				t.Fatalf("%+q: Index(%d): %d, %t", s, off, back, ok)
			}
			if m.Floor(off) != i || m.Ceil(off) != i {
				t.Fatalf("%+q: Floor, Ceil(%d): %d, %d", s, off, m.Floor(off), m.Ceil(off))
			}
			last = off
		}
		if last != len(s) {
			t.Fatalf("%+q: the end is %d", s, last)
		}
		for off := range len(s) + 1 {
			if i, ok := m.Index(off); ok {
				if back, _ := m.Offset(i); back != off {
					t.Fatalf("%+q: Offset(Index(%d)): %d", s, off, back)
				}
			}
		}
	})
}

// R4, R5: two maps of one text tell the same, asked in any row.
func TestSameText(t *testing.T) {
	const s = "\u0600 1\r\n\U0001f1e9\U0001f1ea "
	a, b := place.New(s), place.New(strings.Clone(s))
	check(t, a, s)
	b.Word(3, true)
	b.Splice(0, 2, "7")
	check(t, b, s)
	check(t, a, s)
}

// R1: a long text's map ends soon, and tells its places soon.
func TestLong(t *testing.T) {
	const n = 1 << 17
	for _, x := range []struct {
		piece string
		want  int
	}{{"12 ", 3 * n}, {"\u20ac\u0301", n}, {" ", n}, {"\xff", n}, {"\r\n", n}} {
		s := strings.Repeat(x.piece, n)
		m := place.New(s)
		if m.Len() != x.want || m.Floor(len(s)) != x.want || m.Ceil(high) != x.want {
			t.Fatalf("%+q..: %d", x.piece, m.Len())
		}
		if k := m.Word(0, true); k != 2 && k != x.want {
			t.Fatalf("%+q..: %d", x.piece, k)
		}
		half, ok := m.Slice(0, x.want/2)
		if !ok || !strings.HasPrefix(s, half) {
			t.Fatalf("%+q..", x.piece)
		}
		k, ok := m.Splice(x.want/2, x.want, "")
		if !ok || k.Text() != half {
			t.Fatalf("%+q..", x.piece)
		}
		for i := range 100000 {
			off, _ := m.Offset(i)
			if j, ok := m.Index(off); j != i || !ok {
				t.Fatalf("%+q..: Index(%d): %d", x.piece, off, j)
			}
		}
	}
	one := place.New("e" + strings.Repeat("\u0301", n))
	if one.Len() != 1 || one.Floor(n) != 0 || one.Ceil(n) != 1 {
		t.Error(one.Len(), one.Floor(n), one.Ceil(n))
	}
}

func BenchmarkNew(b *testing.B) {
	s := strings.Repeat("1 234,5 \u20ac", 100)
	b.SetBytes(int64(len(s)))
	for range b.N {
		place.New(s)
	}
}
