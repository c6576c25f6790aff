package class_test

import (
	"slices"
	"strconv"
	"strings"
	"testing"

	"abacist/class"
)

// chapter is the chapter's table, as it stands there.
const chapter = `
| 1 | CR | 13 |
| 2 | LF | 10 |
| 3 | Control | 0..9, 11..12, 14..31, 127..159, 173, 8203, 8206..8207, 8232..8238, 8288..8303, 65279, 65520..65531, 917504..917535 |
| 4 | Extend | 768..879, 1155..1161, 1425..1469, 1552..1562, 1611..1631, 1648, 2364, 2369..2376, 2381, 8204, 8400..8432, 12330..12335, 12441..12442, 65024..65039, 65056..65071, 127995..127999, 917536..917631, 917760..917999 |
| 5 | ZWJ | 8205 |
| 6 | Regional | 127462..127487 |
| 7 | Prepend | 1536..1541, 1757, 1807, 2274 |
| 8 | Spacing | 2307, 2363, 2366..2368, 2377..2380, 2434..2435, 3635, 3763 |
| 9 | HangulL | 4352..4447, 43360..43388 |
| 10 | HangulV | 4448..4519, 55216..55238 |
| 11 | HangulT | 4520..4607, 55243..55291 |
| 14 | Picto | 169, 174, 8252, 8265, 8482, 8505, 8596..8601, 8986..8987, 9728..9732, 9989, 10084, 127744..127994, 128000..128591, 128640..128767, 129280..129535 |
`

// classes is how many classes there are.
const classes = 15

// far is numbers that no table holds, some of which a narrower number would
// take for one that it does.
var far = []int{
	-1, -13, -769, 1114112, 1<<31 - 1, 1 << 31, -1 << 31, 1<<32 + 13, 1<<32 + 769, 1<<32 + 44032, -1<<32 + 8205,
	1<<16 + 1<<32 + 10, 1<<63 - 1, -1 << 63,
}

// row is a line of the chapter's table.
type row struct {
	k      int
	name   string
	ranges [][2]int
}

// rows is the chapter's table, read.
func rows(t *testing.T) []row {
	t.Helper()
	number := func(s string) int {
		n, err := strconv.Atoi(s)
		if err != nil {
			t.Fatal(err)
		}
		return n
	}
	var l []row
	for _, line := range strings.Split(strings.TrimSpace(chapter), "\n") {
		cells := strings.Split(strings.Trim(line, "| "), " | ")
		r := row{k: number(cells[0]), name: cells[1]}
		for _, x := range strings.Split(cells[2], ", ") {
			first, last, wide := strings.Cut(x, "..")
			if !wide {
				last = first
			}
			r.ranges = append(r.ranges, [2]int{number(first), number(last)})
		}
		l = append(l, r)
	}
	return l
}

// table is each character's class, as the chapter words it; Other of none.
func table(t *testing.T) map[int]int {
	t.Helper()
	m := map[int]int{}
	put := func(c, k int) {
		if was, twice := m[c]; twice {
			t.Fatalf("%d is of two classes: %d and %d", c, was, k)
		}
		m[c] = k
	}
	for _, r := range rows(t) {
		for _, x := range r.ranges {
			for c := x[0]; c <= x[1]; c++ {
				put(c, r.k)
			}
		}
	}
	for c := 44032; c <= 55203; c++ {
		if (c-44032)%28 == 0 {
			put(c, 12)
		} else {
			put(c, 13)
		}
	}
	return m
}

// P2.1: the classes have the numbers that the table gives them.
func TestNumbers(t *testing.T) {
	for want, k := range []int{
		class.Other, class.CR, class.LF, class.Control, class.Extend, class.ZWJ, class.Regional, class.Prepend,
		class.Spacing, class.HangulL, class.HangulV, class.HangulT, class.HangulLV, class.HangulLVT, class.Picto,
	} {
		if k != want {
			t.Errorf("%d: %d", want, k)
		}
	}
}

// P2.1: ordinary characters, the ends of ranges, and what stands beside them.
func TestOf(t *testing.T) {
	for _, x := range []struct{ c, want int }{
		{13, class.CR}, {10, class.LF}, {0, class.Control}, {9, class.Control}, {11, class.Control}, {12, class.Control},
		{14, class.Control}, {31, class.Control}, {32, class.Other}, {48, class.Other}, {126, class.Other},
		{127, class.Control}, {159, class.Control}, {160, class.Other}, {169, class.Picto}, {173, class.Control},
		{174, class.Picto}, {767, class.Other}, {768, class.Extend}, {769, class.Extend}, {879, class.Extend},
		{880, class.Other}, {1536, class.Prepend}, {2363, class.Spacing}, {2364, class.Extend}, {2365, class.Other},
		{2366, class.Spacing}, {2368, class.Spacing}, {2369, class.Extend}, {2376, class.Extend}, {2377, class.Spacing},
		{2380, class.Spacing}, {2381, class.Extend}, {4351, class.Other}, {4352, class.HangulL}, {4447, class.HangulL},
		{4448, class.HangulV}, {4519, class.HangulV}, {4520, class.HangulT}, {4607, class.HangulT}, {4608, class.Other},
		{8202, class.Other}, {8203, class.Control}, {8204, class.Extend}, {8205, class.ZWJ}, {8206, class.Control},
		{8364, class.Other}, {44031, class.Other}, {44032, class.HangulLV}, {44033, class.HangulLVT},
		{44059, class.HangulLVT}, {44060, class.HangulLV}, {44061, class.HangulLVT}, {55175, class.HangulLVT},
		{55176, class.HangulLV}, {55203, class.HangulLVT}, {55204, class.Other}, {55216, class.HangulV},
		{55243, class.HangulT}, {55291, class.HangulT}, {55296, class.Other}, {65279, class.Control},
		{65533, class.Other}, {127461, class.Other}, {127462, class.Regional}, {127487, class.Regional},
		{127994, class.Picto}, {127995, class.Extend}, {127999, class.Extend}, {128000, class.Picto},
		{917535, class.Control}, {917536, class.Extend}, {917999, class.Extend}, {918000, class.Other},
		{1114111, class.Other},
	} {
		if k := class.Of(x.c); k != x.want {
			t.Errorf("Of(%d): %d, not %d", x.c, k, x.want)
		}
	}
}

// P2.1: each character, and each number near them, against the chapter's table.
func TestOfEachNumber(t *testing.T) {
	m := table(t)
	check := func(c int) {
		want := m[c]
		if k := class.Of(c); k != want {
			t.Fatalf("Of(%d): %d, not %d", c, k, want)
		}
		if !class.Has(want, c) {
			t.Fatalf("Has(%d, %d): false", want, c)
		}
	}
	for c := -70000; c <= 1114111+70000; c++ {
		check(c)
	}
	for _, c := range far {
		check(c)
	}
}

// P2.1: Has is true of a character's own class alone, and of no number that is none.
func TestHas(t *testing.T) {
	m := table(t)
	for _, c := range append([]int{13, 10, 9, 769, 8205, 127462, 1536, 2307, 4352, 4448, 4520, 44032, 44033, 169, 65, 55296}, far...) {
		for k := -3; k < classes+3; k++ {
			if has := class.Has(k, c); has != (k == m[c]) {
				t.Errorf("Has(%d, %d): %t", k, c, has)
			}
		}
		if class.Has(m[c]+1<<32, c) || class.Has(-1<<63, c) || class.Has(1<<63-1, c) {
			t.Errorf("Has(.., %d) of what is no class", c)
		}
	}
}

// P2.1: the table's rows, as they stand there; none of the classes that have none, and of no class.
func TestRanges(t *testing.T) {
	want := map[int][][2]int{}
	for _, r := range rows(t) {
		want[r.k] = r.ranges
	}
	if len(want) != classes-3 {
		t.Fatalf("%d rows", len(want))
	}
	for _, k := range []int{-1 << 63, 1<<63 - 1, 1<<32 + 1} {
		if l := class.Ranges(k); len(l) != 0 {
			t.Errorf("Ranges(%d): %d", k, l)
		}
	}
	for k := -20; k < classes+20; k++ {
		if l := class.Ranges(k); !slices.Equal(l, want[k]) {
			t.Errorf("Ranges(%d): %d", k, l)
		}
	}
}

// P2.1: the classes' names, and none of what is no class.
func TestName(t *testing.T) {
	want := map[int]string{0: "Other", 12: "HangulLV", 13: "HangulLVT"}
	for _, r := range rows(t) {
		want[r.k] = r.name
	}
	for k := -20; k < classes+20; k++ {
		if s := class.Name(k); s != want[k] {
			t.Errorf("Name(%d): %q", k, s)
		}
	}
	for _, k := range []int{-1 << 63, 1<<63 - 1, 1 << 32, 1<<32 + 1} {
		if s := class.Name(k); s != "" {
			t.Errorf("Name(%d): %q", k, s)
		}
	}
}

// P2.2: the nine blanks, and no other number.
func TestBlank(t *testing.T) {
	blanks := []int{9, 10, 11, 12, 13, 32, 160, 8201, 8239}
	check := func(c int) {
		if is := class.Blank(c); is != slices.Contains(blanks, c) {
			t.Fatalf("Blank(%d): %t", c, is)
		}
	}
	for c := -70000; c <= 1114111+70000; c++ {
		check(c)
	}
	for _, c := range append([]int{1<<32 + 32, -1<<32 + 9, 1<<8 + 32, 1<<16 + 160}, far...) {
		check(c)
	}
}

// P2.2: plain lists, and lists that are not.
func TestPlain(t *testing.T) {
	for _, x := range []struct {
		l    []int
		want bool
	}{
		{nil, false}, {[]int{}, false}, {[]int{101}, true}, {[]int{101, 769}, true}, {[]int{101, 769, 768, 120}, true},
		{[]int{769}, false}, {[]int{769, 101}, false}, {[]int{13}, false}, {[]int{101, 13}, false},
		{[]int{101, 10}, false}, {[]int{101, 9}, false}, {[]int{101, 769, 8205}, false}, {[]int{101, 8204}, true},
		{[]int{101, 127462}, false}, {[]int{1536, 101}, false}, {[]int{101, 2307}, false}, {[]int{44032}, false},
		{[]int{101, 44033}, false}, {[]int{101, 4352}, false}, {[]int{169}, false}, {[]int{36, 169}, false},
		{[]int{32}, true}, {[]int{160, 8239}, true}, {[]int{8206, 45}, false}, {[]int{45, 8206}, false},
		{[]int{-1}, true}, {[]int{55296, 1114112, 1<<32 + 13}, true}, {[]int{-5, 769, -1 << 63}, true},
		{[]int{65533, 8364}, true},
	} {
		if is := class.Plain(x.l); is != x.want {
			t.Errorf("Plain(%d): %t", x.l, is)
		}
	}
}

// P2.2: one of each class alone, and behind a plain one.
func TestPlainOfEachClass(t *testing.T) {
	each := []int{65, 13, 10, 9, 769, 8205, 127462, 1536, 2307, 4352, 4448, 4520, 44032, 44033, 169}
	if len(each) != classes {
		t.Fatal(len(each))
	}
	for k, c := range each {
		for n, want := range []bool{k == 0, k == 0 || k == 4, k == 0 || k == 4} {
			l := append([]int{101, 769}[:n], c)
			if is := class.Plain(l); is != want {
				t.Errorf("Plain(%d): %t", l, is)
			}
		}
	}
}

// P2.3: no character is in two ranges, and those of a class are of it.
func TestEachInOneRange(t *testing.T) {
	in := map[int]int{}
	for k := range classes {
		for _, r := range class.Ranges(k) {
			if r[0] > r[1] || r[0] < 0 || r[1] > 1114111 {
				t.Errorf("%s: %d", class.Name(k), r)
			}
			for c := r[0]; c <= r[1]; c++ {
				if was, twice := in[c]; twice || class.Of(c) != k || 44032 <= c && c <= 55203 {
					t.Fatalf("%d: of %d, and of %d", c, was, k)
				}
				in[c] = k
			}
		}
	}
	for c := range 1114112 {
		k := class.Of(c)
		if was, is := in[c]; is && was != k || !is && k != class.Other && k != class.HangulLV && k != class.HangulLVT {
			t.Fatalf("%d: %d", c, k)
		}
	}
}

// R4: what is answered is new memory, and what is handed in stays.
func TestListsAreNew(t *testing.T) {
	for k := range classes {
		l, was := class.Ranges(k), class.Ranges(k)
		for i := range l {
			l[i] = [2]int{65, 66}
		}
		l = append(l, [2]int{67, 68})
		if !slices.Equal(class.Ranges(k), was) || class.Of(65) != class.Other {
			t.Errorf("%s: %d", class.Name(k), class.Ranges(k))
		}
	}
	room := []int{101, 769, 13, 13}
	if !class.Plain(room[:2]) || !slices.Equal(room, []int{101, 769, 13, 13}) {
		t.Error(room)
	}
}

// What is looked for at each character of a text must cost no memory.
func TestOfTakesNoMemory(t *testing.T) {
	sum := 0
	if n := testing.AllocsPerRun(100, func() { sum += class.Of(65) + class.Of(129535) + class.Of(44033) }); n != 0 {
		t.Errorf("%g", n)
	}
}

func BenchmarkOf(b *testing.B) {
	for i := range b.N {
		class.Of(48 + i%10)
	}
}
