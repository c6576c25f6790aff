package fault_test

import (
	"errors"
	"fmt"
	"slices"
	"strconv"
	"strings"
	"testing"

	"abacist/api"
	"abacist/fault"
)

// codes is all codes, and numbers that are none.
var codes = []api.Errno{api.OK, api.ErrArg, api.ErrForm, api.ErrRange, api.ErrFull, api.ErrSign, api.ErrTwice, api.ErrNone,
	8, 10, 99, 1005, -1, -10, -205, 1 << 32, -1 << 63, 1<<63 - 1}

// wheres is texts of each kind, such as look like a path among them.
var wheres = []string{"", "step", "min", "a: b", ": ", " ", "3", "\xff\x00", "\u20ac"}

// wrapped is a code in faults, the outermost where first.
func wrapped(path []string, code api.Errno) error {
	e := fault.Of(code)
	for _, where := range slices.Backward(path) {
		e = fault.Wrap(where, e)
	}
	return e
}

// eachPath tells every path of up to so many wheres.
func eachPath(most int, tell func(path []string)) {
	var grow func(path []string)
	grow = func(path []string) {
		tell(path)
		for i := 0; i < len(wheres) && len(path) < most; i++ {
			grow(append(slices.Clone(path), wheres[i]))
		}
	}
	grow(nil)
}

// holds asks an error everything, against its path and its code.
func holds(t *testing.T, e error, path []string, code api.Errno) {
	t.Helper()
	text := ""
	for _, where := range path {
		text += where + ": "
	}
	text += strconv.FormatInt(int64(code), 10)
	if got := fault.Path(e); !slices.Equal(got, path) {
		t.Fatalf("Path: %q, not %q", got, path)
	}
	if got := fault.Depth(e); got != len(path) {
		t.Fatalf("Depth of %q: %d", path, got)
	}
	if got := fault.Code(e); got != code {
		t.Fatalf("Code of %q: %d, not %d", path, got, code)
	}
	if got := fault.Text(e); got != text {
		t.Fatalf("Text: %q, not %q", got, text)
	}
	if len(path) > 0 && e.Error() != text {
		t.Fatalf("Error: %q, not %q", e.Error(), text)
	}
	for _, other := range codes {
		if fault.Has(e, other) != (other == code) {
			t.Fatalf("Has of %q with %d, %d: %t", path, code, other, other != code)
		}
	}
}

// nothing asks nil everything.
func nothing(t *testing.T, call string, e error) {
	t.Helper()
	if e != nil || fault.Code(e) != api.OK || len(fault.Path(e)) != 0 || fault.Depth(e) != 0 || fault.Text(e) != "" {
		t.Fatalf("%s: %v, %d, %q, %d, %q", call, e, fault.Code(e), fault.Path(e), fault.Depth(e), fault.Text(e))
	}
	for _, code := range codes {
		if fault.Has(e, code) != (code == api.OK) {
			t.Fatalf("%s: Has %d: %t", call, code, code != api.OK)
		}
	}
}

// P8.1: a code is an error, itself; OK is none.
func TestOf(t *testing.T) {
	for _, code := range codes[1:] {
		e := fault.Of(code)
		if got, ok := e.(api.Errno); !ok || got != code {
			t.Errorf("Of(%d): %v", code, e)
		}
		holds(t, e, nil, code)
	}
	nothing(t, "Of(OK)", fault.Of(api.OK))
}

// P8.1: a fault has its place and the error in it; nil is not wrapped.
func TestWrap(t *testing.T) {
	for _, where := range wheres {
		nothing(t, "Wrap of nil", fault.Wrap(where, nil))
		nothing(t, "Wrap of OK", fault.Wrap(where, fault.Of(api.OK)))
		nothing(t, "Wrap of Wrap of nil", fault.Wrap(where, fault.Wrap("in", nil)))
		for _, in := range []error{fault.Of(api.ErrForm), fault.Of(-7), fault.Wrap("in", fault.Of(api.ErrArg))} {
			e := fault.Wrap(where, in)
			f, ok := e.(*fault.Fault)
			if !ok || f.Where != where || f.Err != in || f.Unwrap() != in || errors.Unwrap(e) != in {
				t.Errorf("Wrap(%q, %v): %v", where, in, e)
			}
			holds(t, e, append([]string{where}, fault.Path(in)...), fault.Code(in))
		}
	}
}

// P8.1, P8.2: nil has no code but OK, no path, no text, and nothing to be cut.
func TestNil(t *testing.T) {
	nothing(t, "nil", nil)
	for _, n := range []int{-1 << 63, -1, 0, 1, 2, 1<<63 - 1} {
		nothing(t, "Cut of nil", fault.Cut(nil, n))
	}
}

// P8.2: the chapter's example, and texts written out.
func TestText(t *testing.T) {
	for _, x := range []struct {
		path []string
		code api.Errno
		want string
	}{
		{[]string{"step", "min"}, 3, "step: min: 3"}, {nil, 1, "1"}, {nil, -1, "-1"}, {nil, 120, "120"}, {[]string{"a"}, -205, "a: -205"},
		{[]string{""}, 7, ": 7"}, {[]string{"", ""}, 7, ": : 7"}, {[]string{"a: b", "c"}, 2, "a: b: c: 2"}, {[]string{"\xff"}, 2, "\xff: 2"},
		{nil, 1<<63 - 1, "9223372036854775807"}, {[]string{"x"}, -1 << 63, "x: -9223372036854775808"},
	} {
		if e := wrapped(x.path, x.code); fault.Text(e) != x.want {
			t.Errorf("%q, not %q", fault.Text(e), x.want)
		}
	}
	e := fault.Wrap("step", fault.Wrap("min", fault.Of(3)))
	if got := fault.Path(e); !slices.Equal(got, []string{"step", "min"}) {
		t.Errorf("%q", got)
	}
}

// P8.1, P8.2, P8.3: each code in each path of up to three places.
func TestEach(t *testing.T) {
	eachPath(3, func(path []string) {
		for _, code := range codes[1:] {
			holds(t, wrapped(path, code), path, code)
		}
	})
}

// P8.2: an error is cut from the outermost fault on, as often as it has one.
func TestCut(t *testing.T) {
	eachPath(3, func(path []string) {
		for _, code := range []api.Errno{api.ErrForm, -3} {
			e := wrapped(path, code)
			for _, n := range []int{-1 << 63, -2, -1, 0, 1, 2, 3, 4, 1 << 32, 1<<63 - 1} {
				rest := path[min(max(n, 0), len(path)):]
				holds(t, fault.Cut(e, n), rest, code)
				// And e is as it was.
				holds(t, e, path, code)
				for _, k := range []int{-1, 0, 1, 2} {
					holds(t, fault.Cut(fault.Cut(e, n), k), rest[min(max(k, 0), len(rest)):], code)
				}
				holds(t, fault.Wrap("over", fault.Cut(e, n)), append([]string{"over"}, rest...), code)
			}
		}
	})
}

// P8.2: what is left is what was wrapped.
func TestCutOfWrapped(t *testing.T) {
	in := fault.Wrap("in", fault.Of(api.ErrFull))
	over := fault.Wrap("b", fault.Wrap("a", in))
	for n, want := range []error{over, errors.Unwrap(over), in, fault.Of(api.ErrFull), fault.Of(api.ErrFull)} {
		if got := fault.Cut(over, n); got != want {
			t.Errorf("Cut by %d: %v, not %v", n, got, want)
		}
	}
}

// P8.3: what is wrapped is found by the library's calls too.
func TestFound(t *testing.T) {
	e := wrapped([]string{"x", "y", "z"}, api.ErrTwice)
	var code api.Errno
	var f *fault.Fault
	if !errors.As(e, &code) || code != api.ErrTwice || !errors.Is(e, api.ErrTwice) || errors.Is(e, api.ErrNone) {
		t.Errorf("%v: %d", e, code)
	}
	if !errors.As(e, &f) || f.Where != "x" || !errors.As(f.Err, &f) || f.Where != "y" || !errors.Is(e, f) {
		t.Errorf("%v", e)
	}
}

// P8.3, R1: what Wrap is given from elsewhere ends and does not panic, and its
// faults are found.
func TestElsewhere(t *testing.T) {
	var none *fault.Fault
	plain := errors.New("plain")
	for _, x := range []struct {
		e    error
		path []string
		code api.Errno
	}{
		{fault.Wrap("a", plain), []string{"a"}, api.OK},
		{fault.Wrap("a", none), []string{"a"}, api.OK},
		{fault.Wrap("a", &fault.Fault{Where: "b"}), []string{"a", "b"}, api.OK},
		{fault.Wrap("a", fmt.Errorf("between: %w", fault.Wrap("b", fault.Of(api.ErrSign)))), []string{"a", "b"}, api.ErrSign},
	} {
		if got := fault.Path(x.e); !slices.Equal(got, x.path) || fault.Depth(x.e) != len(x.path) {
			t.Errorf("%q, not %q", got, x.path)
		}
		want := strings.Join(x.path, ": ") + ": " + strconv.Itoa(int(x.code))
		if fault.Code(x.e) != x.code || fault.Text(x.e) != want || x.e.Error() != want {
			t.Errorf("%d, %q, not %q", fault.Code(x.e), fault.Text(x.e), want)
		}
		for n := range 4 {
			if got := fault.Path(fault.Cut(x.e, n)); !slices.Equal(got, x.path[min(n, len(x.path)):]) {
				t.Errorf("%q cut by %d: %q", x.path, n, got)
			}
		}
		if fault.Has(x.e, api.ErrArg) || fault.Has(x.e, api.ErrSign) != (x.code == api.ErrSign) {
			t.Errorf("%q: Has", x.path)
		}
	}
}

// P8.1: a code that is OK, wrapped as an error itself, is there.
func TestWrappedOK(t *testing.T) {
	holds(t, fault.Wrap("a", api.OK), []string{"a"}, api.OK)
	holds(t, fault.Wrap("b", fault.Wrap("a", api.OK)), []string{"b", "a"}, api.OK)
}

// R4: a path is new memory.
func TestPathIsNew(t *testing.T) {
	e := wrapped([]string{"a", "b", "c"}, api.ErrArg)
	one, two := fault.Path(e), fault.Path(e)
	for i := range one {
		one[i] = "changed"
	}
	_ = append(one[:0], "x", "y")
	if want := []string{"a", "b", "c"}; !slices.Equal(two, want) {
		t.Errorf("%q", two)
	}
	holds(t, e, []string{"a", "b", "c"}, api.ErrArg)
}

// R1: many faults end soon.
func TestMany(t *testing.T) {
	const n = 1 << 18
	path := make([]string, n)
	for i := range path {
		path[i] = strconv.Itoa(i)
	}
	e := wrapped(path, api.ErrNone)
	if !slices.Equal(fault.Path(e), path) || fault.Depth(e) != n || fault.Code(e) != api.ErrNone || !fault.Has(e, api.ErrNone) || fault.Has(e, api.ErrArg) {
		t.Fatal("many faults are not found")
	}
	if want := strings.Join(path, ": ") + ": 7"; fault.Text(e) != want || e.Error() != want {
		t.Fatal(len(fault.Text(e)))
	}
	if got := fault.Cut(e, n-2); fault.Text(got) != strconv.Itoa(n-2)+": "+strconv.Itoa(n-1)+": 7" {
		t.Fatal(got)
	}
	if got := fault.Cut(e, n+2); fault.Text(got) != "7" {
		t.Fatal(got)
	}
}
