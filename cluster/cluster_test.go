package cluster_test

import (
	"regexp"
	"slices"
	"strings"
	"testing"

	"abacist/class"
	"abacist/cluster"
	"abacist/utf"
)

// letters stand for the classes, in the row of their numbers.
const letters = "orncezgpslvtwyi"

// shape is what a cluster looks like, told as a whole where the chapter tells
// what joins two characters: what stands ahead, a core, what stands behind.
var shape = regexp.MustCompile(`^(?:rn|[rnc]|p*(?:l*(?:v+|wv*|y)t*|l+|t+|gg|i(?:e*zi)*|[^rnc])[ezs]*)`)

// members are some characters of each class, among them the ends of ranges.
var members = [][]int{
	class.Other:     {101, 32, 65533, 8364, 1114111},
	class.CR:        {13},
	class.LF:        {10},
	class.Control:   {9, 0, 173, 8203, 65279, 917535},
	class.Extend:    {769, 8204, 65039, 127995, 917999},
	class.ZWJ:       {8205},
	class.Regional:  {127462, 127487},
	class.Prepend:   {1536, 1757, 2274},
	class.Spacing:   {2307, 2363, 3763},
	class.HangulL:   {4352, 43388},
	class.HangulV:   {4448, 55238},
	class.HangulT:   {4520, 55291},
	class.HangulLV:  {44032, 44060},
	class.HangulLVT: {44033, 55203},
	class.Picto:     {128512, 169, 10084, 129535},
}

// model is how many characters each cluster of a list of them has.
func model(l []int) []int {
	var row strings.Builder
	for _, c := range l {
		row.WriteByte(letters[class.Of(c)])
	}
	var sizes []int
	for s := row.String(); s != ""; {
		n := len(shape.FindString(s))
		sizes, s = append(sizes, n), s[n:]
	}
	return sizes
}

// check holds all that is told of one text against the model of it.
func check(t *testing.T, s string) {
	t.Helper()
	all, places := utf.All(s), utf.Starts(s)
	starts, parts, i := []int{0}, []string{}, 0
	for _, n := range model(all) {
		parts = append(parts, s[places[i]:places[i+n]])
		i += n
		starts = append(starts, places[i])
	}
	first, last := 0, 0
	if len(parts) > 0 {
		first, last = len(parts[0]), len(parts[len(parts)-1])
	}
	if l := cluster.Starts(s); !slices.Equal(l, starts) {
		t.Fatalf("Starts(%+q): %d, not %d", s, l, starts)
	}
	if l := cluster.Split(s); !slices.Equal(l, parts) {
		t.Fatalf("Split(%+q): %+q", s, l)
	}
	if n := cluster.Len(s); n != len(parts) {
		t.Fatalf("Len(%+q): %d", s, n)
	}
	if n := cluster.First(s); n != first {
		t.Fatalf("First(%+q): %d", s, n)
	}
	if n := cluster.Last(s); n != last {
		t.Fatalf("Last(%+q): %d", s, n)
	}
	if is := cluster.One(s); is != (len(parts) == 1) {
		t.Fatalf("One(%+q): %t", s, is)
	}
	for i, c := range all {
		if is := cluster.Joined(all[:i], c); is == slices.Contains(starts, places[i]) {
			t.Fatalf("Joined(%d, %d): %t", all[:i], c, is)
		}
	}
}

// eachList tells every list of so many of the numbers.
func eachList(of []int, n int, tell func(l []int)) {
	l := make([]int, n)
	var put func(i int)
	put = func(i int) {
		if i == n {
			tell(l)
			return
		}
		for _, x := range of {
			l[i] = x
			put(i + 1)
		}
	}
	put(0)
}

// oneOfEach is one character of each class.
func oneOfEach() []int {
	var l []int
	for _, m := range members {
		l = append(l, m[0])
	}
	return l
}

// The characters stand for the classes they are told of.
func TestMembers(t *testing.T) {
	if len(members) != len(letters) {
		t.Fatal(len(members))
	}
	for k, m := range members {
		for _, c := range m {
			if class.Of(c) != k {
				t.Errorf("%d: %s", c, class.Name(class.Of(c)))
			}
		}
	}
}

// P3.1: each rule, what it does not join, and what it asks for ahead.
func TestJoined(t *testing.T) {
	const (
		flag, face, cat, skin = 127462, 128512, 128049, 127995
	)
	for _, x := range []struct {
		a    []int
		c    int
		want bool
	}{
		// None ahead.
		{nil, 101, false}, {[]int{}, 769, false}, {nil, 10, false}, {nil, 8205, false}, {nil, flag, false},
		// 1, 2.
		{[]int{13}, 10, true}, {[]int{10}, 13, false}, {[]int{13}, 13, false}, {[]int{10}, 10, false},
		{[]int{13, 10}, 10, false}, {[]int{101, 13}, 10, true}, {[]int{13, 769}, 10, false},
		{[]int{13}, 769, false}, {[]int{10}, 8205, false}, {[]int{9}, 2307, false}, {[]int{173}, 769, false},
		{[]int{1536}, 13, false}, {[]int{1536}, 10, false}, {[]int{1536}, 9, false}, {[]int{101}, 9, false},
		{[]int{9}, 9, false}, {[]int{9}, 4352, false}, {[]int{face}, 8206, false},
		// 3.
		{[]int{4352}, 4352, true}, {[]int{4352}, 4448, true}, {[]int{4352}, 44032, true}, {[]int{4352}, 44033, true},
		{[]int{4352}, 4520, false}, {[]int{44032}, 4448, true}, {[]int{44032}, 4520, true}, {[]int{44032}, 4352, false},
		{[]int{44032}, 44032, false}, {[]int{44032}, 44033, false}, {[]int{4448}, 4448, true}, {[]int{4448}, 4520, true},
		{[]int{4448}, 4352, false}, {[]int{4448}, 44032, false}, {[]int{44033}, 4520, true}, {[]int{44033}, 4448, false},
		{[]int{44033}, 4352, false}, {[]int{44033}, 44033, false}, {[]int{4520}, 4520, true}, {[]int{4520}, 4448, false},
		{[]int{4520}, 4352, false}, {[]int{4352, 769}, 4448, false}, {[]int{101}, 4448, false}, {[]int{4352}, 101, false},
		// 4, 5.
		{[]int{101}, 769, true}, {[]int{101, 769}, 769, true}, {[]int{769}, 769, true}, {[]int{101}, 8205, true},
		{[]int{101}, 2307, true}, {[]int{2307}, 2307, true}, {[]int{44033}, 769, true}, {[]int{flag}, 8205, true},
		{[]int{101, 769}, 101, false}, {[]int{8205}, 101, false}, {[]int{2307}, 101, false}, {[]int{101}, 101, false},
		// 6.
		{[]int{1536}, 101, true}, {[]int{1536}, 1536, true}, {[]int{1536}, face, true}, {[]int{1536}, flag, true},
		{[]int{1536}, 4520, true}, {[]int{101}, 1536, false}, {[]int{1536, 769}, 101, false}, {[]int{1536, 101}, 101, false},
		// 7.
		{[]int{face, 8205}, cat, true}, {[]int{face, skin, 8205}, cat, true}, {[]int{face, skin, 769, 65039, 8205}, cat, true},
		{[]int{face, 8205, cat, 8205}, face, true}, {[]int{101, face, 8205}, cat, true}, {[]int{1536, face, 8205}, 169, true},
		{[]int{face}, cat, false}, {[]int{face, skin}, cat, false}, {[]int{8205}, cat, false}, {[]int{101, 8205}, cat, false},
		{[]int{face, 8205, 8205}, cat, false}, {[]int{face, 8205, skin}, cat, false}, {[]int{face, 8205, skin, 8205}, cat, false},
		{[]int{face, 2307, 8205}, cat, false}, {[]int{face, 101, 8205}, cat, false}, {[]int{face, 10, 8205}, cat, false},
		{[]int{flag, 8205}, cat, false}, {[]int{face, 8205}, 101, false}, {[]int{face, 8205, 101, 8205}, cat, false},
		// 8.
		{[]int{flag}, flag, true}, {[]int{flag, flag}, flag, false}, {[]int{flag, flag, flag}, flag, true},
		{[]int{101, flag}, flag, true}, {[]int{101, flag, flag}, flag, false}, {[]int{flag, 769}, flag, false},
		{[]int{flag, 8205}, flag, false}, {[]int{flag, 769, flag}, flag, true}, {[]int{flag, 101, flag}, flag, true},
		{[]int{1536, flag}, flag, true}, {[]int{1536, flag, flag}, flag, false}, {[]int{flag}, 101, false}, {[]int{101}, flag, false},
		// Of what is no character: as of one of the class Other.
		{[]int{-1}, 769, true}, {[]int{1 << 40}, 769, true}, {[]int{55296}, 8205, true}, {[]int{-1}, 1114112, false},
		{[]int{1536}, -1 << 63, true}, {[]int{1<<32 + 13}, 10, false}, {[]int{13}, 1<<32 + 10, false},
		{[]int{face, 1<<32 + 8205}, cat, false}, {[]int{1<<63 - 1, flag}, flag, true}, {nil, -1, false},
	} {
		if is := cluster.Joined(x.a, x.c); is != x.want {
			t.Errorf("Joined(%d, %d): %t", x.a, x.c, is)
		}
	}
}

// P3.1: what stands ahead counts, however long it is.
func TestJoinedFarAhead(t *testing.T) {
	many := func(c, n int) []int { return slices.Repeat([]int{c}, n) }
	for _, n := range []int{0, 1, 2, 254, 255, 256, 65535, 65536} {
		if is := cluster.Joined(many(127462, n), 127462); is != (n%2 == 1) {
			t.Errorf("%d of Regional: %t", n, is)
		}
		if is := cluster.Joined(append([]int{101}, many(127462, n)...), 127462); is != (n%2 == 1) {
			t.Errorf("%d of Regional behind another: %t", n, is)
		}
		tail := append(many(769, n), 8205)
		if !cluster.Joined(append([]int{128512}, tail...), 128512) {
			t.Errorf("Picto, %d of Extend", n)
		}
		if cluster.Joined(append([]int{101}, tail...), 128512) || cluster.Joined(tail, 128512) {
			t.Errorf("no Picto, %d of Extend", n)
		}
	}
}

// P3.2: ordinary texts, their edges, and spoilt bytes.
func TestSplit(t *testing.T) {
	for _, x := range []struct {
		s    string
		want []string
	}{
		{"", nil}, {"x", []string{"x"}}, {"1,5", []string{"1", ",", "5"}}, {"e\u0301x", []string{"e\u0301", "x"}},
		{"\u0301", []string{"\u0301"}}, {"\u0301\u0301x", []string{"\u0301\u0301", "x"}}, {"\r\n", []string{"\r\n"}},
		{"\r\n\r\n", []string{"\r\n", "\r\n"}}, {"\n\r", []string{"\n", "\r"}}, {"\r\r\n\n", []string{"\r", "\r\n", "\n"}},
		{"1\u00a0234", []string{"1", "\u00a0", "2", "3", "4"}}, {"\u20ac\u200d", []string{"\u20ac\u200d"}},
		{"\u200e-5", []string{"\u200e", "-", "5"}}, {"\t\u0301", []string{"\t", "\u0301"}},
		{"\U0001f1e9\U0001f1ea\U0001f1eb", []string{"\U0001f1e9\U0001f1ea", "\U0001f1eb"}},
		{"\U0001f600\U0001f3fb\u200d\U0001f600\U0001f600", []string{"\U0001f600\U0001f3fb\u200d\U0001f600", "\U0001f600"}},
		{"\uac00\u11a8\u1100\u1161", []string{"\uac00\u11a8", "\u1100\u1161"}}, {"\u06001\u06002", []string{"\u06001", "\u06002"}},
		{"\u0600\n", []string{"\u0600", "\n"}}, {"1\u0600", []string{"1", "\u0600"}},
		{"\xff", []string{"\xff"}}, {"\xff\xfe", []string{"\xff", "\xfe"}}, {"\xff\u0301", []string{"\xff\u0301"}},
		{"\u0600\xff\u0301\xcc", []string{"\u0600\xff\u0301", "\xcc"}}, {"e\xcc", []string{"e", "\xcc"}},
		{"\xe2\x82", []string{"\xe2", "\x82"}}, {"\ufffd\xff", []string{"\ufffd", "\xff"}},
		{"\xed\xa0\x80", []string{"\xed", "\xa0", "\x80"}},
	} {
		if l := cluster.Split(x.s); !slices.Equal(l, x.want) {
			t.Errorf("Split(%+q): %+q", x.s, l)
		}
		check(t, x.s)
	}
}

// P3.2: places, numbers and lengths are bytes'; of the empty text there is none.
func TestBytes(t *testing.T) {
	const s = "e\u0301x"
	if l := cluster.Starts(s); !slices.Equal(l, []int{0, 3, 4}) {
		t.Error(l)
	}
	if cluster.Len(s) != 2 || cluster.First(s) != 3 || cluster.Last(s) != 1 || cluster.One(s) {
		t.Error(cluster.Len(s), cluster.First(s), cluster.Last(s), cluster.One(s))
	}
	if cluster.First("xe\u0301") != 1 || cluster.Last("xe\u0301") != 3 || !cluster.One("e\u0301") || cluster.Last("e\u0301") != 3 {
		t.Error("xe\u0301")
	}
	if l := cluster.Starts(""); !slices.Equal(l, []int{0}) {
		t.Error(l)
	}
	if cluster.Len("") != 0 || cluster.First("") != 0 || cluster.Last("") != 0 || len(cluster.Split("")) != 0 || cluster.One("") {
		t.Error("of the empty text")
	}
}

// P3.1, P3.2: every short text of one character of each class.
func TestEachClass(t *testing.T) {
	of := oneOfEach()
	for n := range 5 {
		eachList(of, n, func(l []int) { check(t, utf.Join(l)) })
	}
}

// P3.1, P3.2: longer texts of those classes for which more than one character ahead counts.
func TestLongRules(t *testing.T) {
	of := []int{101, 769, 8205, 127462, 2307, 128512}
	for n := range 7 {
		eachList(of, n, func(l []int) { check(t, utf.Join(l)) })
	}
}

// P3.1, P3.2: every two and three of more characters of each class.
func TestMoreOfEachClass(t *testing.T) {
	of := slices.Concat(members...)
	for n := range 4 {
		eachList(of, n, func(l []int) { check(t, utf.Join(l)) })
	}
}

// P3.1, P3.2: every short text of bytes that are a character's, or spoilt.
func TestEachBytes(t *testing.T) {
	const bytes = "e\r\n\xcc\x81\xff\xe2\x80\x8d"
	of := make([]int, len(bytes))
	for i := range of {
		of[i] = i
	}
	for n := range 6 {
		eachList(of, n, func(l []int) {
			s := make([]byte, 0, n)
			for _, i := range l {
				s = append(s, bytes[i])
			}
			check(t, string(s))
		})
	}
}

// P3.3: clusters together are the text; each is one, read by itself.
func TestTogether(t *testing.T) {
	of := []int{101, 13, 10, 769, 8205, 127462, 1536, 128512}
	for n := range 6 {
		eachList(of, n, func(l []int) {
			s := utf.Join(l)
			parts := cluster.Split(s)
			if strings.Join(parts, "") != s {
				t.Fatalf("Split(%+q): %+q", s, parts)
			}
			for _, p := range parts {
				if !cluster.One(p) || cluster.First(p) != len(p) || cluster.Last(p) != len(p) {
					t.Fatalf("%+q: %+q is not one", s, p)
				}
			}
		})
	}
}

// P3.3: what stands ahead of one of the class Other, but Prepend, changes no cluster behind.
func TestAheadOfOther(t *testing.T) {
	of := oneOfEach()
	ends := []string{"", "e", "\u0301", "\u200d", "\u0301\u200d\U0001f600", "\U0001f1e9\U0001f1ea\U0001f1eb", "\u11a8", "\r\n", "\u0600"}
	for n := 1; n < 4; n++ {
		eachList(of, n, func(l []int) {
			ahead := utf.Join(l)
			for _, end := range ends {
				for _, other := range []string{"x", "\u20ac", "\ufffd", "\xff"} {
					behind := other + end
					whole := cluster.Split(ahead + behind)
					apart := slices.Concat(cluster.Split(ahead), cluster.Split(behind))
					if class.Of(l[n-1]) != class.Prepend && !slices.Equal(whole, apart) {
						t.Fatalf("%+q ahead of %+q: %+q", ahead, behind, whole)
					}
					if class.Of(l[n-1]) == class.Prepend && len(whole) != len(apart)-1 {
						t.Fatalf("%+q ahead of %+q: %+q", ahead, behind, whole)
					}
				}
			}
		})
	}
}

// R4: what is answered is new memory, and what is handed in stays.
func TestListsAreNew(t *testing.T) {
	const s = "e\u0301x"
	starts, parts := cluster.Starts(s), cluster.Split(s)
	for i := range starts {
		starts[i] = -1
	}
	for i := range parts {
		parts[i] = "y"
	}
	if l := cluster.Starts(s); !slices.Equal(l, []int{0, 3, 4}) {
		t.Error(l)
	}
	if l := cluster.Split(s); !slices.Equal(l, []string{"e\u0301", "x"}) {
		t.Errorf("%+q", l)
	}
	room := []int{128512, 769, 8205, 7, 8}
	if !cluster.Joined(room[:3], 128512) || !slices.Equal(room, []int{128512, 769, 8205, 7, 8}) {
		t.Error(room)
	}
}

// R1: a long text, and a long list, end soon.
func TestLong(t *testing.T) {
	const n = 1 << 18
	for _, x := range []struct {
		s    string
		want int
	}{
		{strings.Repeat("1", n), n}, {"e" + strings.Repeat("\u0301", n), 1}, {strings.Repeat("\U0001f1e9", n), n / 2},
		{strings.Repeat("\U0001f600\u200d", n), 1}, {strings.Repeat("\xff", n), n}, {strings.Repeat("\u0600", n), 1},
	} {
		head := x.s[:8]
		if k := cluster.Len(x.s); k != x.want || len(cluster.Split(x.s)) != x.want {
			t.Errorf("%+q..: %d", head, k)
		}
		if cluster.First(x.s)+cluster.Last(x.s) > 2*len(x.s) || cluster.One(x.s) != (x.want == 1) {
			t.Errorf("%+q..", head)
		}
	}
	long := slices.Repeat([]int{101}, n)
	for range 1000 {
		if !cluster.Joined(long, 769) {
			t.Fatal("not joined")
		}
	}
}

func BenchmarkStarts(b *testing.B) {
	s := strings.Repeat("1 234,5 \u20ac", 100)
	b.SetBytes(int64(len(s)))
	for range b.N {
		cluster.Starts(s)
	}
}
