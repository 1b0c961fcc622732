package fault_test

import (
	"errors"
	"fmt"
	"math"
	"strconv"
	"testing"

	"usher/api"
	"usher/fault"
)

// random are numbers, the same ones each time.
type random uint64

func (r *random) next() uint64 {
	x := uint64(*r)
	x ^= x << 13
	x ^= x >> 7
	x ^= x << 17
	*r = random(x)
	return x
}

func (r *random) below(n int) int { return int((r.next() >> 11) % uint64(n)) }

const seed = random(88172645463325252)

// Errors of other types. Their fields have the names of a Fault's, which must not matter.

// around wraps, and is no Fault.
type around struct {
	Line int
	What string
	Err  error
}

func (a around) Error() string { return "around" }
func (a around) Unwrap() error { return a.Err }

// hides has something inside, but does not unwrap it.
type hides struct {
	Line int
	What string
	Err  error
}

func (h hides) Error() string { return "hides" }

// numbers can't be held against each other by ==.
type numbers []int

func (n numbers) Error() string { return "numbers" }

// bundle can't be, either, and wraps.
type bundle struct {
	parts []int
	err   error
}

func (b bundle) Error() string { return "bundle" }
func (b bundle) Unwrap() error { return b.err }

// likeErrno is a number as an Errno is one.
type likeErrno int

func (l likeErrno) Error() string { return "like" }

// holdsErrno has an Errno's methods, and is none.
type holdsErrno struct{ api.Errno }

// holdsFault has a Fault's methods, and is none.
type holdsFault struct{ fault.Fault }

// breaks can't be asked what it wraps.
type breaks struct{}

func (b breaks) Error() string { return "breaks" }
func (b breaks) Unwrap() error { panic("breaks") }

// story is what a chain should tell.
type story struct {
	code api.Errno
	line int
	what string
}

func check(t *testing.T, name string, err error, want story) {
	t.Helper()
	if got := fault.Code(err); got != want.code {
		t.Errorf("%s: Code is %d, not %d", name, int(got), int(want.code))
	}
	if got := fault.Line(err); got != want.line {
		t.Errorf("%s: Line is %d, not %d", name, got, want.line)
	}
	if got := fault.What(err); got != want.what {
		t.Errorf("%s: What is %q, not %q", name, got, want.what)
	}
}

func TestExamples(t *testing.T) { // P9.1, P9.2, P9.3
	x := fault.At(3, fault.Of("level a", api.ErrRange))
	if x == nil {
		t.Fatal("no fault")
	}
	if got := x.Error(); got != "line 3: level a: error 8" {
		t.Errorf("the text is %q", got)
	}
	check(t, "x", x, story{api.ErrRange, 3, "level a"})
	if got := fault.At(3, nil); got != nil {
		t.Errorf("At(3, nil) is %v", got)
	}
}

// P9.1
func TestError(t *testing.T) {
	type f = fault.Fault
	for _, c := range []struct {
		err  f
		want string
	}{
		{f{}, "error 1"},
		{f{Err: api.OK}, "error 0"},
		{f{Err: api.ErrArg}, "error 1"},
		{f{Err: api.ErrBroke}, "error 13"},
		{f{Err: api.Errno(math.MaxInt)}, "error " + strconv.Itoa(math.MaxInt)},
		{f{Err: api.Errno(-7)}, "error -7"},
		{f{Err: errors.New("other")}, "error 1"},
		{f{Err: numbers{1}}, "error 1"},
		{f{Line: 1}, "line 1: error 1"},
		{f{Line: 0, Err: api.ErrForm}, "error 2"},
		{f{Line: -1, Err: api.ErrForm}, "error 2"},
		{f{Line: math.MinInt, Err: api.ErrForm}, "error 2"},
		{f{Line: math.MaxInt, Err: api.ErrForm}, "line " + strconv.Itoa(math.MaxInt) + ": error 2"},
		{f{Line: 10, Err: api.ErrForm}, "line 10: error 2"},
		{f{What: "w"}, "w: error 1"},
		{f{What: "w", Err: api.ErrLack}, "w: error 12"},
		{f{What: " ", Err: api.ErrLack}, " : error 12"},
		{f{What: "a: b", Err: api.ErrLack}, "a: b: error 12"},
		{f{What: "\x00\xff\n", Err: api.ErrLack}, "\x00\xff\n: error 12"},
		{f{Line: 2, What: "w", Err: api.ErrLack}, "line 2: w: error 12"},
		{f{Line: -2, What: "w", Err: api.ErrLack}, "w: error 12"},
		// What lies deeper is told once, and in one order.
		{f{What: "w", Err: f{Line: 4, Err: api.ErrTwice}}, "line 4: w: error 5"},
		{f{Line: 4, Err: f{What: "w", Err: api.ErrTwice}}, "line 4: w: error 5"},
		{f{Line: 4, What: "w", Err: f{Line: 5, What: "v", Err: api.ErrTwice}}, "line 4: w: error 5"},
		{f{Err: f{Line: 5, What: "v", Err: api.ErrTwice}}, "line 5: v: error 5"},
		// A line below 0 is a line, so none behind it is asked.
		{f{Line: -4, Err: f{Line: 5, Err: api.ErrTwice}}, "error 5"},
		{f{Err: f{Line: -5, Err: f{Line: 5, Err: api.ErrTwice}}}, "error 5"},
		{f{Line: 4, Err: f{Line: -5, Err: api.ErrTwice}}, "line 4: error 5"},
		// Errors of other types say nothing, what they wrap does.
		{f{Err: around{7, "x", f{Line: 5, What: "v", Err: api.ErrTwice}}}, "line 5: v: error 5"},
		{f{Err: hides{7, "x", f{Line: 5, What: "v", Err: api.ErrTwice}}}, "error 1"},
		{f{Line: 3, Err: &f{Line: 5, What: "v", Err: api.ErrTwice}}, "line 3: error 5"},
		{f{Err: &f{Line: 5, What: "v", Err: api.ErrTwice}}, "error 5"},
	} {
		if got := c.err.Error(); got != c.want {
			t.Errorf("%#v: the text is %q, not %q", c.err, got, c.want)
		}
	}
}

// P9.1
func TestUnwrap(t *testing.T) {
	if got := (fault.Fault{Line: 3, What: "w"}).Unwrap(); got != nil {
		t.Errorf("of nothing: %v", got)
	}
	deep := fault.At(1, api.ErrRange)
	pointer := &fault.Fault{Line: 1}
	for _, err := range []error{api.OK, api.ErrBroke, errors.New("other"), deep, pointer, around{Err: deep}} {
		for _, f := range []fault.Fault{{Err: err}, {3, "w", err}, {-3, "", err}} {
			if got := f.Unwrap(); got != err {
				t.Errorf("%#v unwraps %v", f, got)
			}
			if got := errors.Unwrap(f); got != err {
				t.Errorf("%#v is unwrapped as %v by the library", f, got)
			}
		}
	}
}

// P9.2
func TestAt(t *testing.T) {
	deep := fault.Of("w", api.ErrRange)
	for _, line := range []int{0, 1, -1, 3, 1024, math.MaxInt, math.MinInt} {
		if got := fault.At(line, nil); got != nil {
			t.Errorf("At(%d, nil) is %v", line, got)
		}
		for _, err := range []error{api.OK, api.ErrRange, errors.New("other"), deep, fault.Fault{}, &fault.Fault{}, (*fault.Fault)(nil)} {
			if got, want := fault.At(line, err), (fault.Fault{Line: line, Err: err}); got != want {
				t.Errorf("At(%d, %#v) is %#v", line, err, got)
			}
		}
	}
}

// P9.2
func TestOf(t *testing.T) {
	deep := fault.At(3, api.ErrRange)
	for _, what := range []string{"", " ", "level a", "line 3: ", "\x00\xff\n"} {
		if got := fault.Of(what, nil); got != nil {
			t.Errorf("Of(%q, nil) is %v", what, got)
		}
		for _, err := range []error{api.OK, api.ErrRange, errors.New("other"), deep, fault.Fault{}, &fault.Fault{}, (*fault.Fault)(nil)} {
			if got, want := fault.Of(what, err), (fault.Fault{What: what, Err: err}); got != want {
				t.Errorf("Of(%q, %#v) is %#v", what, err, got)
			}
		}
	}
}

// P9.2: a Fault is the value, and found as one.
func TestFaultIsTheValue(t *testing.T) {
	for _, err := range []error{fault.At(3, api.ErrRange), fault.Of("w", api.ErrRange)} {
		if _, ok := err.(fault.Fault); !ok {
			t.Errorf("%#v is no Fault", err)
		}
		if _, ok := err.(*fault.Fault); ok {
			t.Errorf("%#v is a pointer", err)
		}
		var found fault.Fault
		if !errors.As(err, &found) || error(found) != err {
			t.Errorf("%#v is not found by the library", err)
		}
	}
	if fault.At(3, api.ErrRange) != fault.At(3, api.ErrRange) || fault.Of("w", api.ErrRange) != fault.Of("w", api.ErrRange) {
		t.Error("faults of the same things are not the same")
	}
}

// P9.3
func TestNil(t *testing.T) {
	check(t, "nil", nil, story{})
	for e := api.OK; e <= api.ErrBroke; e++ {
		if fault.Is(nil, e) {
			t.Errorf("%d stands in the chain of nil", int(e))
		}
	}
}

// P9.3
func TestChains(t *testing.T) {
	type f = fault.Fault
	number := api.ErrState
	for _, c := range []struct {
		name string
		err  error
		want story
	}{
		{"a number", api.ErrRange, story{api.ErrRange, 0, ""}},
		{"OK as an error", api.OK, story{api.OK, 0, ""}},
		{"a number without a name", api.Errno(99), story{99, 0, ""}},
		{"a number below 0", api.Errno(math.MinInt), story{math.MinInt, 0, ""}},
		{"another error", errors.New("error 8"), story{api.ErrArg, 0, ""}},
		{"an empty fault", f{}, story{api.ErrArg, 0, ""}},
		{"a fault that wraps nothing", f{Line: 3, What: "w"}, story{api.ErrArg, 3, "w"}},
		{"a fault of OK", f{Err: api.OK}, story{api.OK, 0, ""}},
		{"a fault of another error", f{3, "w", errors.New("error 8")}, story{api.ErrArg, 3, "w"}},

		{"the greatest line", f{Line: math.MaxInt, Err: f{Line: 1, Err: api.ErrForm}}, story{api.ErrForm, math.MaxInt, ""}},
		{"the least line", f{Line: math.MinInt, Err: f{Line: 1, Err: api.ErrForm}}, story{api.ErrForm, math.MinInt, ""}},
		{"a line below 0", f{Line: -1, Err: f{Line: 1, Err: api.ErrForm}}, story{api.ErrForm, -1, ""}},
		{"a line of 0", f{Line: 0, Err: f{Line: 1, Err: api.ErrForm}}, story{api.ErrForm, 1, ""}},
		{"both in one", f{1, "a", f{2, "b", api.ErrForm}}, story{api.ErrForm, 1, "a"}},
		{"line, then what", fault.At(1, fault.Of("a", f{2, "b", api.ErrForm})), story{api.ErrForm, 1, "a"}},
		{"what, then line", fault.Of("a", fault.At(1, f{2, "b", api.ErrForm})), story{api.ErrForm, 1, "a"}},
		{"two lines", fault.At(1, fault.At(2, api.ErrForm)), story{api.ErrForm, 1, ""}},
		{"two names", fault.Of("a", fault.Of("b", api.ErrForm)), story{api.ErrForm, 0, "a"}},
		{"empty ones ahead", fault.At(0, fault.Of("", fault.At(0, f{2, "b", api.ErrForm}))), story{api.ErrForm, 2, "b"}},
		{"empty ones alone", fault.At(0, fault.Of("", fault.At(0, api.ErrForm))), story{api.ErrForm, 0, ""}},
		{"no line, but a name", f{0, "a", f{2, "b", api.ErrForm}}, story{api.ErrForm, 2, "a"}},
		{"no name, but a line", f{1, "", f{2, "b", api.ErrForm}}, story{api.ErrForm, 1, "b"}},
		{"behind a fault that wraps nothing", f{Err: f{Err: f{2, "b", nil}}}, story{api.ErrArg, 2, "b"}},

		{"around a number", around{7, "x", api.ErrFull}, story{api.ErrFull, 0, ""}},
		{"around nothing", around{7, "x", nil}, story{api.ErrArg, 0, ""}},
		{"around a fault", around{7, "x", f{2, "b", api.ErrFull}}, story{api.ErrFull, 2, "b"}},
		{"between faults", f{0, "a", around{7, "x", f{2, "b", around{8, "y", api.ErrFull}}}}, story{api.ErrFull, 2, "a"}},
		{"the library's wrapping", fmt.Errorf("x: %w", fault.At(3, fmt.Errorf("y: %w", fault.Of("w", api.ErrFull)))), story{api.ErrFull, 3, "w"}},
		{"hidden", hides{7, "x", f{2, "b", api.ErrFull}}, story{api.ErrArg, 0, ""}},
		{"hidden in a fault", f{1, "", hides{7, "x", f{2, "b", api.ErrFull}}}, story{api.ErrArg, 1, ""}},
		{"what can't be compared", f{1, "a", bundle{[]int{1}, f{2, "b", api.ErrFull}}}, story{api.ErrFull, 1, "a"}},
		{"what can't be compared, at the end", f{1, "a", numbers{1}}, story{api.ErrArg, 1, "a"}},
		{"what can't be compared, alone", numbers(nil), story{api.ErrArg, 0, ""}},

		{"like a number", f{Err: likeErrno(8)}, story{api.ErrArg, 0, ""}},
		{"a pointer to a number", f{Err: &number}, story{api.ErrArg, 0, ""}},
		{"a number held by another type", f{Err: holdsErrno{api.ErrState}}, story{api.ErrArg, 0, ""}},
		{"a pointer to a fault", &f{1, "a", f{2, "b", api.ErrFull}}, story{api.ErrFull, 2, "b"}},
		{"a pointer to a fault of a number", &f{1, "a", api.ErrFull}, story{api.ErrFull, 0, ""}},
		{"a pointer between faults", f{0, "a", &f{1, "p", f{2, "b", api.ErrFull}}}, story{api.ErrFull, 2, "a"}},
		{"a fault held by another type", holdsFault{f{1, "a", f{2, "b", api.ErrFull}}}, story{api.ErrFull, 2, "b"}},
	} {
		check(t, c.name, c.err, c.want)
	}
}

// P9.3
func TestIs(t *testing.T) {
	type f = fault.Fault
	number := api.ErrRange
	never := api.Errno(math.MaxInt)
	for _, c := range []struct {
		name string
		err  error
		in   api.Errno // the one number in the chain
	}{
		{"a number", api.ErrRange, api.ErrRange},
		{"OK", api.OK, api.OK},
		{"below 0", f{Err: api.Errno(-8)}, -8},
		{"in a fault", fault.At(3, api.ErrLong), api.ErrLong},
		{"OK in a fault", fault.Of("w", api.OK), api.OK},
		{"deep", fault.At(3, around{Err: fault.Of("w", bundle{nil, fault.At(1, api.ErrLack)})}), api.ErrLack},
		{"behind a pointer", &f{1, "a", api.ErrHand}, api.ErrHand},
		{"the library's wrapping", fmt.Errorf("x: %w", fault.At(3, api.ErrName)), api.ErrName},
		{"an empty fault", f{}, never},
		{"a fault that wraps nothing", f{Line: 1, What: "w"}, never},
		{"another error", errors.New("error 8"), never},
		{"a fault of another error", f{Err: errors.New("error 8")}, never},
		{"hidden", f{Err: hides{Err: api.ErrRange}}, never},
		{"like a number", f{Err: likeErrno(8)}, never},
		{"a pointer to a number", f{Err: &number}, never},
		{"a number held by another type", f{Err: holdsErrno{api.ErrRange}}, never},
		{"what can't be compared", f{Err: numbers{8}}, never},
	} {
		for e := api.Errno(-14); e <= 14; e++ {
			if got, want := fault.Is(c.err, e), e == c.in; got != want {
				t.Errorf("%s: Is %d is %v", c.name, int(e), got)
			}
		}
	}
}

// link is one error of a chain that is made out of a plan.
type link struct {
	kind int
	line int
	what string
}

const (
	faultLink = iota
	pointerLink
	aroundLink
	bundleLink
	linkKinds
)

func (l link) wrap(err error) error {
	switch l.kind {
	case faultLink:
		return fault.Fault{Line: l.line, What: l.what, Err: err}
	case pointerLink:
		return &fault.Fault{Line: l.line, What: l.what, Err: err}
	case aroundLink:
		return around{l.line, l.what, err}
	default:
		return bundle{[]int{l.line}, err}
	}
}

// end is the last one of a chain; the first one that is wrapped around it may wrap nothing.
type end struct {
	err    error
	number bool
	code   api.Errno
}

func ends() []end {
	return []end{
		{nil, false, api.ErrArg},
		{api.OK, true, api.OK},
		{api.ErrArg, true, api.ErrArg},
		{api.ErrRange, true, api.ErrRange},
		{errors.New("other"), false, api.ErrArg},
		{hides{5, "h", fault.At(6, api.ErrFull)}, false, api.ErrArg},
		{numbers{1}, false, api.ErrArg},
	}
}

// compare makes the chain of the links, the first one outside, and holds what it tells against the plan.
func compare(t *testing.T, links []link, last end) {
	t.Helper()
	err := last.err
	for i := len(links) - 1; i >= 0; i-- {
		err = links[i].wrap(err)
	}
	if err == nil {
		return
	}
	want := story{code: last.code}
	for _, l := range links {
		if l.kind == faultLink && want.line == 0 {
			want.line = l.line
		}
		if l.kind == faultLink && want.what == "" {
			want.what = l.what
		}
	}
	got := story{fault.Code(err), fault.Line(err), fault.What(err)}
	if got != want {
		t.Fatalf("%v, %#v: %v, not %v", links, last, got, want)
	}
	for e := api.OK; e <= api.ErrBroke; e++ {
		if is := fault.Is(err, e); is != (last.number && e == last.code) {
			t.Fatalf("%v, %#v: Is %d is %v", links, last, int(e), is)
		}
	}
	if f, ok := err.(fault.Fault); ok {
		compareText(t, f, want)
	}
}

func compareText(t *testing.T, f fault.Fault, want story) {
	t.Helper()
	text := fmt.Sprintf("error %d", int(want.code))
	if want.what != "" {
		text = fmt.Sprintf("%s: %s", want.what, text)
	}
	if want.line > 0 {
		text = fmt.Sprintf("line %d: %s", want.line, text)
	}
	if got := f.Error(); got != text {
		t.Fatalf("%#v: the text is %q, not %q", f, got, text)
	}
}

// P9.1, P9.3: all chains of few links.
func TestAllSmallChains(t *testing.T) {
	var kinds []link
	for kind := range linkKinds {
		for _, line := range []int{0, 3, -2} {
			for _, what := range []string{"", "w"} {
				kinds = append(kinds, link{kind, line, what})
			}
		}
	}
	var grow func(links []link, most int)
	grow = func(links []link, most int) {
		for _, last := range ends() {
			compare(t, links, last)
		}
		if most == 0 {
			return
		}
		for i, l := range kinds {
			l.line *= len(links) + 1 // so that it tells which one it is of
			if l.what != "" {
				l.what = strconv.Itoa(i) + "-" + strconv.Itoa(len(links))
			}
			grow(append(links[:len(links):len(links)], l), most-1)
		}
	}
	grow(nil, 3)
}

// P9.1, P9.3: long ones, in which lines and names are rare.
func TestMixedChains(t *testing.T) {
	r := seed
	lines := []int{1, -1, math.MaxInt, math.MinInt, 1 << 40}
	for range 3000 {
		links := make([]link, r.below(40))
		rare := 1 + r.below(30)
		for i := range links {
			links[i].kind = r.below(linkKinds)
			if r.below(rare) == 0 {
				links[i].line = lines[r.below(len(lines))]
			}
			if r.below(rare) == 0 {
				links[i].what = strconv.Itoa(i)
			}
		}
		all := ends()
		compare(t, links, all[r.below(len(all))])
	}
}

// P9.1, P9.3: as deep as the document's bound on parts in one another.
func TestDeepChains(t *testing.T) {
	for kind := range linkKinds {
		links := make([]link, 1<<16-2)
		for i := range links {
			links[i].kind = kind
		}
		for _, last := range ends() {
			compare(t, links, last)
		}
		links[len(links)-1] = link{faultLink, 9, "deep"}
		compare(t, links, end{api.ErrRange, true, api.ErrRange})
	}
}

// P9.1, P9.3: no call panics; a chain ends at an error that can't be asked what it wraps.
func TestBrokenErrors(t *testing.T) {
	for _, broken := range []error{breaks{}, &breaks{}, (*fault.Fault)(nil), (*around)(nil), (*holdsFault)(nil), holdsErrno{}, (*holdsErrno)(nil)} {
		for _, c := range []struct {
			name string
			err  error
			line int
			what string
		}{
			{"alone", broken, 0, ""},
			{"in a fault", fault.Fault{Err: broken}, 0, ""},
			{"behind a line", fault.At(3, broken), 3, ""},
			{"behind a name", fault.Of("w", broken), 0, "w"},
			{"behind both", fault.Of("w", around{7, "x", fault.At(3, broken)}), 3, "w"},
		} {
			name := fmt.Sprintf("%T %s", broken, c.name)
			check(t, name, c.err, story{api.ErrArg, c.line, c.what})
			for e := api.OK; e <= api.ErrBroke; e++ {
				if fault.Is(c.err, e) {
					t.Errorf("%s: Is %d", name, int(e))
				}
			}
			if f, ok := c.err.(fault.Fault); ok {
				compareText(t, f, story{api.ErrArg, c.line, c.what})
			}
		}
	}
}
