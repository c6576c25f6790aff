package utf_test

import (
	"slices"
	"testing"

	"abacist/api"
	"abacist/utf"
)

// bytesOf is a character's bytes, worked out as the chapter words them; none,
// if the number is no character.
func bytesOf(c int) string {
	switch {
	case c < 0 || c > 1114111 || 55296 <= c && c <= 57343:
		return ""
	case c <= 127:
		return string([]byte{byte(c)})
	case c <= 2047:
		return string([]byte{byte(192 + c/64), byte(128 + c%64)})
	case c <= 65535:
		return string([]byte{byte(224 + c/4096), byte(128 + c%4096/64), byte(128 + c%64)})
	}
	return string([]byte{byte(240 + c/262144), byte(128 + c%262144/4096), byte(128 + c%4096/64), byte(128 + c%64)})
}

// mark is a character as it stands in a text.
type mark struct {
	at, c, n int
	is       bool
}

// marks is a text's characters, looked for byte by byte, without the language's own decoding.
func marks(s string) []mark {
	var l []mark
	for at := 0; at < len(s); at += l[len(l)-1].n {
		l = append(l, markAt(s, at))
	}
	return l
}

func markAt(s string, at int) mark {
	c := 0
	for n := 1; n <= 4 && at+n <= len(s); n++ {
		b := int(s[at+n-1])
		switch {
		case n > 1:
			c = c*64 + b - 128
		case b >= 240:
			c = b - 240
		case b >= 224:
			c = b - 224
		case b >= 192:
			c = b - 192
		default:
			c = b
		}
		if bytesOf(c) == s[at:at+n] {
			return mark{at, c, n, true}
		}
	}
	return mark{at, 65533, 1, false}
}

// check holds all that is told of one text against the marks of it.
func check(t *testing.T, s string) {
	t.Helper()
	all, starts, clean, valid := []int{}, []int{}, "", true
	var first, last mark
	for i, m := range marks(s) {
		if i == 0 {
			first = m
		}
		last = m
		all, starts, clean, valid = append(all, m.c), append(starts, m.at), clean+bytesOf(m.c), valid && m.is
	}
	starts = append(starts, len(s))
	if c, n, is := utf.First(s); c != first.c || n != first.n || is != first.is {
		t.Fatalf("First(%q): %d %d %t", s, c, n, is)
	}
	if c, n, is := utf.Last(s); c != last.c || n != last.n || is != last.is {
		t.Fatalf("Last(%q): %d %d %t", s, c, n, is)
	}
	if l := utf.All(s); !slices.Equal(l, all) {
		t.Fatalf("All(%q): %d", s, l)
	}
	if l := utf.Starts(s); !slices.Equal(l, starts) {
		t.Fatalf("Starts(%q): %d", s, l)
	}
	if n := utf.Len(s); n != len(all) {
		t.Fatalf("Len(%q): %d", s, n)
	}
	if is := utf.Valid(s); is != valid {
		t.Fatalf("Valid(%q): %t", s, is)
	}
	if c := utf.Clean(s); c != clean {
		t.Fatalf("Clean(%q): %q", s, c)
	}
	if j := utf.Join(all); j != clean {
		t.Fatalf("Join(%d): %q", all, j)
	}
}

// eachText tells every text of so many of the bytes.
func eachText(bytes string, n int, tell func(s string)) {
	s := make([]byte, n)
	var put func(i int)
	put = func(i int) {
		if i == n {
			tell(string(s))
			return
		}
		for j := range len(bytes) {
			s[i] = bytes[j]
			put(i + 1)
		}
	}
	put(0)
}

// edges is the bytes at which a character's form changes.
const edges = "\x00A\x7f\x80\x8f\x90\x9f\xa0\xbd\xbf\xc0\xc1\xc2\xdf\xe0\xe1\xec\xed\xee\xef\xf0\xf1\xf4\xf5\xf8\xff"

// P1.1: characters and no characters, at each limit that the chapter names.
func TestMayAndEncodeAtTheLimits(t *testing.T) {
	for _, x := range []struct {
		c    int
		want string
	}{
		{0, "\x00"}, {65, "A"}, {127, "\x7f"}, {128, "\xc2\x80"}, {233, "\xc3\xa9"}, {2047, "\xdf\xbf"},
		{2048, "\xe0\xa0\x80"}, {8364, "\xe2\x82\xac"}, {55295, "\xed\x9f\xbf"}, {57344, "\xee\x80\x80"},
		{65533, "\xef\xbf\xbd"}, {65535, "\xef\xbf\xbf"}, {65536, "\xf0\x90\x80\x80"}, {1114111, "\xf4\x8f\xbf\xbf"},
	} {
		if s := utf.Encode(x.c); s != x.want || !utf.May(x.c) {
			t.Errorf("%d: %q %t", x.c, s, utf.May(x.c))
		}
	}
	for _, c := range []int{-1, -65, 55296, 56320, 57343, 1114112, 1<<31 - 1, 1 << 31, 1<<32 + 65, -1<<32 + 65, 1<<63 - 1, -1 << 63} {
		if s := utf.Encode(c); s != "" || utf.May(c) {
			t.Errorf("%d: %q %t", c, s, utf.May(c))
		}
	}
}

// P1.1, P1.2, P1.3: every character, and the numbers beside them.
func TestEveryCharacter(t *testing.T) {
	for c := -70000; c <= 1114111+70000; c++ {
		want := bytesOf(c)
		if s := utf.Encode(c); s != want || utf.May(c) != (want != "") {
			t.Fatalf("%d: %q %t", c, s, utf.May(c))
		}
		if want == "" {
			continue
		}
		d, n, is := utf.First(want + "A")
		e, m, was := utf.Last("A" + want)
		if d != c || n != len(want) || !is || e != c || m != len(want) || !was {
			t.Fatalf("%d: First %d %d %t, Last %d %d %t", c, d, n, is, e, m, was)
		}
		if l := utf.All(want); len(l) != 1 || l[0] != c || utf.Len(want) != 1 || !utf.Valid(want) {
			t.Fatalf("%d: All %d", c, l)
		}
	}
}

// P1.1: the first and the last character of ordinary, empty and spoilt texts.
func TestFirstAndLast(t *testing.T) {
	for _, x := range []struct {
		s    string
		c, n int
		is   bool
		d, m int
		was  bool
	}{
		{"", 0, 0, false, 0, 0, false},
		{"a", 97, 1, true, 97, 1, true},
		{"12\xe2\x82\xac", 49, 1, true, 8364, 3, true},
		{"\xf0\x90\x80\x80\xc2\xa0", 65536, 4, true, 160, 2, true},
		{"\x00", 0, 1, true, 0, 1, true},
		{"\xef\xbf\xbd", 65533, 3, true, 65533, 3, true},
		{"\xff", 65533, 1, false, 65533, 1, false},
		{"\xe2\x82", 65533, 1, false, 65533, 1, false},
		{"\xe2\x82\xac\xac", 8364, 3, true, 65533, 1, false},
		{"\xf0\x90\x80", 65533, 1, false, 65533, 1, false},
		{"\xf4\x90\x80\x80", 65533, 1, false, 65533, 1, false},
		{"\xed\xbf\xbf", 65533, 1, false, 65533, 1, false},
		{"\xe0\x80\x80", 65533, 1, false, 65533, 1, false},
		{"\xc1\xbf", 65533, 1, false, 65533, 1, false},
		{"\xf8\x88\x80\x80\x80", 65533, 1, false, 65533, 1, false},
		{"\x80A", 65533, 1, false, 65, 1, true},
	} {
		c, n, is := utf.First(x.s)
		d, m, was := utf.Last(x.s)
		if c != x.c || n != x.n || is != x.is || d != x.d || m != x.m || was != x.was {
			t.Errorf("%q: First %d %d %t, Last %d %d %t", x.s, c, n, is, d, m, was)
		}
	}
}

// P1.2: characters, places, and how many, of a text with spoilt bytes among others.
func TestWholeTexts(t *testing.T) {
	s := "\xe2\x82\xac\xe2\x82\xc3\xa9\xef\xbf\xbd\xff1"
	if l := utf.All(s); !slices.Equal(l, []int{8364, 65533, 65533, 233, 65533, 65533, 49}) {
		t.Errorf("All: %d", l)
	}
	if l := utf.Starts(s); !slices.Equal(l, []int{0, 3, 4, 5, 7, 10, 11, 12}) {
		t.Errorf("Starts: %d", l)
	}
	if n := utf.Len(s); n != 7 || utf.Valid(s) {
		t.Errorf("Len: %d, Valid: %t", n, utf.Valid(s))
	}
	if c := utf.Clean(s); c != "\xe2\x82\xac\xef\xbf\xbd\xef\xbf\xbd\xc3\xa9\xef\xbf\xbd\xef\xbf\xbd1" || !utf.Valid(c) {
		t.Errorf("Clean: %q", c)
	}
	if len(utf.All("")) != 0 || !slices.Equal(utf.Starts(""), []int{0}) || utf.Len("") != 0 || utf.Clean("") != "" || !utf.Valid("") {
		t.Error("the empty text")
	}
	if utf.Valid("1,5\xe2\x82") || !utf.Valid("1,5\xef\xbf\xbd") || !utf.Valid("1,5\xe2\x82\xac") {
		t.Error("Valid")
	}
}

// P1.2: what is no character is joined as 65533, whatever number it is.
func TestJoin(t *testing.T) {
	const none = "\xef\xbf\xbd"
	for _, x := range []struct {
		l    []int
		want string
	}{
		{nil, ""}, {[]int{}, ""}, {[]int{0}, "\x00"}, {[]int{8364, 49}, "\xe2\x82\xac1"},
		{[]int{-1, 65, 55296, 57343, 1114112}, none + "A" + none + none + none},
		{[]int{1<<32 + 65, -1 << 63, 1<<63 - 1, 65533}, none + none + none + none},
	} {
		if s := utf.Join(x.l); s != x.want {
			t.Errorf("%d: %q", x.l, s)
		}
	}
}

// P1.1, P1.2: every short text, and longer ones of the bytes at the edges.
func TestEveryShortText(t *testing.T) {
	every := make([]byte, 256)
	for b := range every {
		every[b] = byte(b)
	}
	for n := range 3 {
		eachText(string(every), n, func(s string) { check(t, s) })
	}
	for n := 3; n <= 4; n++ {
		eachText(edges, n, func(s string) { check(t, s) })
	}
	eachText("A\x80\xbf\xc2\xe2\xef\xf0", 6, func(s string) { check(t, s) })
}

// P1.3: what is joined is told again.
func TestJoinedIsToldAgain(t *testing.T) {
	limits := []int{0, 65, 127, 128, 2047, 2048, 8364, 55295, 57344, 65533, 65535, 65536, 1114111}
	for _, a := range limits {
		for _, b := range limits {
			for _, c := range limits {
				l := []int{a, b, c}
				s := utf.Join(l)
				if !slices.Equal(utf.All(s), l) || !utf.Valid(s) || utf.Clean(s) != s {
					t.Fatalf("%d: %q", l, s)
				}
				starts := utf.Starts(s)
				for i, x := range l {
					if s[starts[i]:starts[i+1]] != utf.Encode(x) {
						t.Fatalf("%d: %d", l, starts)
					}
				}
			}
		}
	}
	l := []int{-1, 49, 55296}
	if got := utf.All(utf.Join(l)); !slices.Equal(got, []int{api.Spoilt, 49, api.Spoilt}) {
		t.Errorf("%d: %d", l, got)
	}
}

// R4: what is handed in stays, and what is answered is new.
func TestListsAreNew(t *testing.T) {
	room := []int{-1, 8364, 7, 7}
	utf.Join(room[:2])
	if !slices.Equal(room, []int{-1, 8364, 7, 7}) {
		t.Errorf("%d", room)
	}
	s := "1\xe2\x82\xac"
	utf.All(s)[0], utf.Starts(s)[0] = 9, 9
	if !slices.Equal(utf.All(s), []int{49, 8364}) || !slices.Equal(utf.Starts(s), []int{0, 1, 4}) {
		t.Error(utf.All(s), utf.Starts(s))
	}
}
