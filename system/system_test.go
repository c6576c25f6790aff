package system_test

import (
	"slices"
	"strings"
	"testing"
	"unicode"

	"abacist/api"
	"abacist/system"
)

// table is the chapter's table, and each system's ten digits written out.
var table = []struct {
	name   string
	nought int
	digits string
}{
	{"arab", 1632, "\u0660\u0661\u0662\u0663\u0664\u0665\u0666\u0667\u0668\u0669"},
	{"arabext", 1776, "\u06f0\u06f1\u06f2\u06f3\u06f4\u06f5\u06f6\u06f7\u06f8\u06f9"},
	{"beng", 2534, "\u09e6\u09e7\u09e8\u09e9\u09ea\u09eb\u09ec\u09ed\u09ee\u09ef"},
	{"deva", 2406, "\u0966\u0967\u0968\u0969\u096a\u096b\u096c\u096d\u096e\u096f"},
	{"fullwide", 65296, "\uff10\uff11\uff12\uff13\uff14\uff15\uff16\uff17\uff18\uff19"},
	{"gujr", 2790, "\u0ae6\u0ae7\u0ae8\u0ae9\u0aea\u0aeb\u0aec\u0aed\u0aee\u0aef"},
	{"guru", 2662, "\u0a66\u0a67\u0a68\u0a69\u0a6a\u0a6b\u0a6c\u0a6d\u0a6e\u0a6f"},
	{"khmr", 6112, "\u17e0\u17e1\u17e2\u17e3\u17e4\u17e5\u17e6\u17e7\u17e8\u17e9"},
	{"knda", 3302, "\u0ce6\u0ce7\u0ce8\u0ce9\u0cea\u0ceb\u0cec\u0ced\u0cee\u0cef"},
	{"laoo", 3792, "\u0ed0\u0ed1\u0ed2\u0ed3\u0ed4\u0ed5\u0ed6\u0ed7\u0ed8\u0ed9"},
	{"latn", 48, "0123456789"},
	{"mathsanb", 120812, "\U0001d7ec\U0001d7ed\U0001d7ee\U0001d7ef\U0001d7f0\U0001d7f1\U0001d7f2\U0001d7f3\U0001d7f4\U0001d7f5"},
	{"mlym", 3430, "\u0d66\u0d67\u0d68\u0d69\u0d6a\u0d6b\u0d6c\u0d6d\u0d6e\u0d6f"},
	{"mong", 6160, "\u1810\u1811\u1812\u1813\u1814\u1815\u1816\u1817\u1818\u1819"},
	{"mymr", 4160, "\u1040\u1041\u1042\u1043\u1044\u1045\u1046\u1047\u1048\u1049"},
	{"orya", 2918, "\u0b66\u0b67\u0b68\u0b69\u0b6a\u0b6b\u0b6c\u0b6d\u0b6e\u0b6f"},
	{"tamldec", 3046, "\u0be6\u0be7\u0be8\u0be9\u0bea\u0beb\u0bec\u0bed\u0bee\u0bef"},
	{"telu", 3174, "\u0c66\u0c67\u0c68\u0c69\u0c6a\u0c6b\u0c6c\u0c6d\u0c6e\u0c6f"},
	{"thai", 3664, "\u0e50\u0e51\u0e52\u0e53\u0e54\u0e55\u0e56\u0e57\u0e58\u0e59"},
	{"tibt", 3872, "\u0f20\u0f21\u0f22\u0f23\u0f24\u0f25\u0f26\u0f27\u0f28\u0f29"},
}

// strange is texts that are no system's name.
var strange = []string{"", "x", "Latn", "LATN", "latn ", " latn", "lat", "latnn", "arabe", "ara", "arabextt", "latn\x00", "\xff", "1", "48", "hanidec", "tibtt"}

// numbers is what is no digit 0 to 9 at the ends and beside them.
var numbers = []int{-1 << 63, -1<<63 + 48, -1 << 32, -10, -1, 10, 11, 48, 57, 1 << 32, 1<<32 + 5, 1<<63 - 1}

// each tells every digit that there is: its system's name, its character and its bytes.
func each(tell func(name string, d, c int, bytes string)) {
	for _, x := range table {
		for d, r := range []rune(x.digits) {
			tell(x.name, d, int(r), string(r))
		}
	}
}

// shaped is what the digits l are in a system, by the table alone.
func shaped(digits string, l []int) string {
	s := ""
	for _, d := range l {
		s += string([]rune(digits)[d])
	}
	return s
}

// eachList tells every list of up to so many digits.
func eachList(most int, tell func(l []int)) {
	var grow func(l []int)
	grow = func(l []int) {
		tell(l)
		for d := 0; d < 10 && len(l) < most; d++ {
			grow(append(slices.Clone(l), d))
		}
	}
	grow(nil)
}

// P9.1: all names of the chapter, rising, at each asking.
func TestNames(t *testing.T) {
	var want []string
	for _, x := range table {
		want = append(want, x.name)
	}
	if !slices.IsSorted(want) || len(want) != 20 {
		t.Fatal("the table is not the chapter's")
	}
	for range 100 {
		if got := system.Names(); !slices.Equal(got, want) {
			t.Fatalf("%q, not %q", got, want)
		}
	}
}

// P9.1: each system's nought.
func TestZero(t *testing.T) {
	for _, x := range table {
		if c, err := system.Zero(x.name); c != x.nought || err != api.OK {
			t.Errorf("%s: %d, %d", x.name, c, err)
		}
	}
}

// P9.1: each system's digits' bytes, and numbers that are none.
func TestDigit(t *testing.T) {
	each(func(name string, d, c int, bytes string) {
		if s, err := system.Digit(name, d); s != bytes || err != api.OK {
			t.Errorf("%s, %d: %q, %d", name, d, s, err)
		}
	})
	for _, x := range table {
		for _, d := range numbers {
			if s, err := system.Digit(x.name, d); s != "" || err != api.ErrRange {
				t.Errorf("%s, %d: %q, %d", x.name, d, s, err)
			}
		}
	}
}

// P9.1, P9.3, P9.4: each number, in each system, against the table.
func TestEachCharacter(t *testing.T) {
	type at struct {
		name string
		d    int
	}
	is := map[int]at{}
	each(func(name string, d, c int, bytes string) {
		if was, twice := is[c]; twice {
			t.Fatalf("%d is a digit of %s and of %s", c, was.name, name)
		}
		is[c] = at{name, d}
	})
	var l []int
	for c := -70000; c <= 70000; c++ {
		l = append(l, c)
	}
	for c := 120700; c <= 120900; c++ {
		l = append(l, c)
	}
	l = append(l, api.MaxChar-1, api.MaxChar, api.MaxChar+1, -1<<63, -1<<63+1, 1<<63-1, 1<<32, 1<<32+48, 1<<32+57, -1<<32+50)
	for _, c := range l {
		want, a := is[c]
		if !a {
			want = at{"", -1}
		}
		if name, d := system.Of(c); name != want.name || d != want.d {
			t.Fatalf("Of(%d): %q, %d", c, name, d)
		}
	}
	for _, x := range table {
		for _, c := range append(l[len(l)-10:], edges()...) {
			d, err := 0, api.ErrForm
			if is[c].name == x.name {
				d, err = is[c].d, api.OK
			}
			if got, e := system.Value(x.name, c); got != d || e != err {
				t.Fatalf("Value(%s, %d): %d, %d", x.name, c, got, e)
			}
		}
	}
}

// edges is the characters of all digits, and what stands beside them.
func edges() []int {
	l := []int{0, -1, 1, 9, 10, 65533}
	for _, x := range table {
		for c := x.nought - 2; c < x.nought+12; c++ {
			l = append(l, c, -c)
		}
	}
	return l
}

// P9.1: the chapter's digits are such as the library's table of characters has.
func TestDigitsOfLibrary(t *testing.T) {
	each(func(name string, d, c int, bytes string) {
		if !unicode.IsDigit(rune(c)) {
			t.Errorf("%s, %d: %d", name, d, c)
		}
	})
}

// P9.2: the chapter's example, and others written out.
func TestShapeWritten(t *testing.T) {
	for _, x := range []struct {
		name string
		l    []int
		want string
	}{
		{"arab", []int{1, 2}, "\xd9\xa1\xd9\xa2"}, {"latn", []int{0, 0, 7}, "007"}, {"latn", nil, ""}, {"arabext", []int{4}, "\xdb\xb4"},
		{"deva", []int{9, 0}, "\xe0\xa5\xaf\xe0\xa5\xa6"}, {"fullwide", []int{5}, "\xef\xbc\x95"},
		{"mathsanb", []int{0, 9}, "\xf0\x9d\x9f\xac\xf0\x9d\x9f\xb5"}, {"tibt", []int{3}, "\xe0\xbc\xa3"}, {"khmr", []int{}, ""},
	} {
		if s, err := system.Shape(x.name, x.l); s != x.want || err != api.OK {
			t.Errorf("%s, %v: %q, %d", x.name, x.l, s, err)
		}
		if l, err := system.Read(x.name, x.want); !slices.Equal(l, x.l) || err != api.OK {
			t.Errorf("%s, %q: %v, %d", x.name, x.want, l, err)
		}
	}
}

// P9.2, P9.4: each list of up to three digits is shaped, read as it was, and
// by another system not at all.
func TestShapeAndRead(t *testing.T) {
	for i, x := range table {
		other := table[(i+1)%len(table)].name
		eachList(3, func(l []int) {
			was := slices.Clone(l)
			s, err := system.Shape(x.name, l)
			if s != shaped(x.digits, l) || err != api.OK {
				t.Fatalf("Shape(%s, %v): %q, %d", x.name, l, s, err)
			}
			if got, err := system.Read(x.name, s); !slices.Equal(got, l) || err != api.OK || !slices.Equal(l, was) {
				t.Fatalf("Read(%s, %q): %v, %d", x.name, s, got, err)
			}
			if got, err := system.Read(other, s); len(got) != 0 || (err == api.ErrForm) != (len(l) > 0) {
				t.Fatalf("Read(%s, %q): %v, %d", other, s, got, err)
			}
		})
	}
}

// P9.2: what is no list of digits is not shaped, wherever it stands.
func TestShapeOfNone(t *testing.T) {
	for _, x := range table {
		for _, n := range numbers {
			for _, l := range [][]int{{n}, {n, 1}, {1, n}, {1, 2, n, 3}, {0, 0, 0, n}, {n, n}} {
				if s, err := system.Shape(x.name, l); s != "" || err != api.ErrArg {
					t.Errorf("%s, %v: %q, %d", x.name, l, s, err)
				}
			}
		}
	}
}

// P9.2: what has something else than digits is not read, wherever it stands.
func TestReadOfNone(t *testing.T) {
	for i, x := range table {
		one, two := shaped(x.digits, []int{1}), shaped(x.digits, []int{9, 0})
		other := table[(i+7)%len(table)]
		for _, bad := range []string{" ", ".", ",", "-", "x", "\x00", "\xff", "\x80", "\ufffd", "\u0301", "\r\n", "\U0001f600",
			string(rune(x.nought - 1)), string(rune(x.nought + 10)), other.digits, one[:len(one)-1] + "\xff", "\xe0\xa5", "\xf0\x9d\x9f", "\xc0\xb1"} {
			for _, s := range []string{bad, bad + one, one + bad, two + bad + two, one + two + bad} {
				if l, err := system.Read(x.name, s); len(l) != 0 || err != api.ErrForm {
					t.Errorf("%s, %q: %v, %d", x.name, s, l, err)
				}
				if got, err := system.Convert(x.name, other.name, s); got != "" || err != api.ErrForm {
					t.Errorf("%s, %s, %q: %q, %d", x.name, other.name, s, got, err)
				}
			}
		}
		// Digits whose last one is cut off within its bytes.
		if s := two + one; len(one) > 1 {
			for n := 1; n < len(one); n++ {
				if l, err := system.Read(x.name, s[:len(s)-n]); len(l) != 0 || err != api.ErrForm {
					t.Errorf("%s, %q: %v, %d", x.name, s[:len(s)-n], l, err)
				}
				if l, err := system.Read(x.name, s[n:]); len(l) != 0 || err != api.ErrForm {
					t.Errorf("%s, %q: %v, %d", x.name, s[n:], l, err)
				}
			}
		}
	}
}

// P9.2: each system's digits in each other one, and back.
func TestConvert(t *testing.T) {
	for _, from := range table {
		for _, to := range table {
			for _, l := range [][]int{nil, {0}, {0, 0, 7}, {9, 8, 7, 6, 5, 4, 3, 2, 1, 0}} {
				s := shaped(from.digits, l)
				got, err := system.Convert(from.name, to.name, s)
				if got != shaped(to.digits, l) || err != api.OK {
					t.Errorf("%s, %s, %q: %q, %d", from.name, to.name, s, got, err)
				}
				if back, err := system.Convert(to.name, from.name, got); back != s || err != api.OK {
					t.Errorf("%s, %s, %q: %q, %d", to.name, from.name, got, back, err)
				}
			}
		}
	}
}

// P9.1, P9.2: there is no such system, whatever else is wrong.
func TestNoSystem(t *testing.T) {
	for _, name := range strange {
		if c, err := system.Zero(name); c != 0 || err != api.ErrNone {
			t.Errorf("Zero(%q): %d, %d", name, c, err)
		}
		for _, d := range append(numbers, 0, 5, 9) {
			if s, err := system.Digit(name, d); s != "" || err != api.ErrNone {
				t.Errorf("Digit(%q, %d): %q, %d", name, d, s, err)
			}
			if v, err := system.Value(name, d); v != 0 || err != api.ErrNone {
				t.Errorf("Value(%q, %d): %d, %d", name, d, v, err)
			}
			if s, err := system.Shape(name, []int{1, d}); s != "" || err != api.ErrNone {
				t.Errorf("Shape(%q, %d): %q, %d", name, d, s, err)
			}
		}
		for _, s := range []string{"", "1", "x", "1x", "\xff"} {
			if l, err := system.Read(name, s); len(l) != 0 || err != api.ErrNone {
				t.Errorf("Read(%q, %q): %v, %d", name, s, l, err)
			}
			for _, other := range append(strange, "latn", "arab") {
				if got, err := system.Convert(name, other, s); got != "" || err != api.ErrNone {
					t.Errorf("Convert(%q, %q, %q): %q, %d", name, other, s, got, err)
				}
				if got, err := system.Convert(other, name, s); got != "" || err != api.ErrNone {
					t.Errorf("Convert(%q, %q, %q): %q, %d", other, name, s, got, err)
				}
			}
		}
		if s, err := system.Shape(name, nil); s != "" || err != api.ErrNone {
			t.Errorf("Shape(%q): %q, %d", name, s, err)
		}
	}
}

// R4: what is answered is new memory, and what is handed in stays as it was.
func TestAnswersAreNew(t *testing.T) {
	one, two := system.Names(), system.Names()
	for i := range one {
		one[i] = "changed"
	}
	_ = append(one[:0], "x", "y")
	if len(two) != len(table) || two[0] != "arab" || !slices.Equal(two, system.Names()) {
		t.Errorf("%q", two)
	}
	if c, err := system.Zero("arab"); c != 1632 || err != api.OK {
		t.Errorf("%d, %d", c, err)
	}
	a, _ := system.Read("latn", "123")
	b, _ := system.Read("latn", "123")
	a[0], a[2] = 9, 9
	if !slices.Equal(b, []int{1, 2, 3}) {
		t.Errorf("%v", b)
	}
	room := []int{1, 2, 77, 78}
	if s, err := system.Shape("latn", room[:2]); s != "12" || err != api.OK || !slices.Equal(room, []int{1, 2, 77, 78}) {
		t.Errorf("%q, %d, %v", s, err, room)
	}
}

// R1: long texts and lists end soon.
func TestLong(t *testing.T) {
	const n = 1 << 18
	l := make([]int, n)
	for i := range l {
		l[i] = i * 7 % 10
	}
	s, err := system.Shape("mathsanb", l)
	if len(s) != 4*n || err != api.OK {
		t.Fatalf("%d bytes, %d", len(s), err)
	}
	if got, err := system.Read("mathsanb", s); !slices.Equal(got, l) || err != api.OK {
		t.Fatalf("not read as it was: %d", err)
	}
	plain, err := system.Convert("mathsanb", "latn", s)
	if len(plain) != n || err != api.OK || !strings.HasPrefix(plain, "0741852963") {
		t.Fatalf("%d bytes, %d", len(plain), err)
	}
	if got, err := system.Convert("latn", "arab", plain+"x"); got != "" || err != api.ErrForm {
		t.Fatalf("%d bytes, %d", len(got), err)
	}
}
