package event_test

import (
	"math"
	"reflect"
	"strings"
	"testing"

	"usher/api"
	"usher/event"
)

var (
	kinds = [...]int{api.New, api.Done, api.Drop, api.Tick, api.Load}
	// noKinds are kinds that there aren't.
	noKinds = [...]int{math.MinInt, -1 << 32, -2, -1, 0, 6, 7, 256 + 1, 1<<32 + 1, 1<<32 + 5, math.MaxInt}
	// notBlank are bytes, and pieces of texts, that part no words, though some look like blanks.
	notBlank = [...]string{"\t", "\n", "\r", "\v", "\f", "\x00", "\x1f", "\x7f", "\x80", "\x85", "\xa0", "\xff", "\u0085", "\u00a0", "\u2003", "\u3000", "é", "ｎ"}
	// noWords are pieces that stand between blanks and are no words of layer 8; - is the one that some places take.
	noWords = [...]string{"*", ",", "a,b", "a,", ",a", "a;b", ";", "a*", "a\tb", "a\n", "\r", "é", "\xff", "\x00", "a+b", "#", "a=b", "(", strings.Repeat("x", api.MaxWord+1), strings.Repeat("x", 4*api.MaxWord)}
	// noNumbers are pieces that are no numbers of layer 8.
	noNumbers = [...]string{"-", "x", "-1", "-0", "+1", "+0", "00", "01", "007", "1.", "1.0", "1e3", "0x1", "1_0", "1,0", "1x", "x1", "1000000000", "4294967297", "18446744073709551617", "000000001", "0000000001", strings.Repeat("9", 400), "١", "\xff", "1\t", "\n1", "1;"}
	longest   = strings.Repeat("W", api.MaxWord)
)

// usual is a request as others are made of it.
func usual() api.Request {
	return api.Request{User: "u", Groups: []string{"g", "h"}, Verb: "get", Resource: "pods", Space: "ns", Objects: 3}
}

const usualLine = "new 7 u g,h get pods ns 3"

func comes(id int, q api.Request) api.Event { return api.Event{Kind: api.New, ID: id, Request: q} }

func done(id int) api.Event { return api.Event{Kind: api.Done, ID: id} }

func drop(id int) api.Event { return api.Event{Kind: api.Drop, ID: id} }

func tick(n int) api.Event { return api.Event{Kind: api.Tick, N: n} }

func load(text string) api.Event { return api.Event{Kind: api.Load, Text: text} }

// one event of each kind.
func each() []api.Event {
	return []api.Event{comes(7, usual()), done(7), drop(7), tick(7), load("total 7")}
}

// equal: the same, groups that are nil and groups that are empty, too.
func equal(a, b api.Event) bool {
	for _, e := range []*api.Event{&a, &b} {
		if len(e.Request.Groups) == 0 {
			e.Request.Groups = nil
		}
	}
	return reflect.DeepEqual(a, b)
}

func reads(t *testing.T, line string, want api.Event) {
	t.Helper()
	if got, e := event.Read(line); e != api.OK || !equal(got, want) {
		t.Errorf("Read(%q) = %+v, %v; want %+v", line, got, e, want)
	}
}

// readsNot, and the event beside the error is the zero one.
func readsNot(t *testing.T, line string, want api.Errno) {
	t.Helper()
	if got, e := event.Read(line); e != want || !reflect.DeepEqual(got, api.Event{}) {
		t.Errorf("Read(%q) = %+v, %v; want %v", line, got, e, want)
	}
}

// writes, and the line is read as the same event.
func writes(t *testing.T, e api.Event, want string) {
	t.Helper()
	if got, err := event.Write(e); err != api.OK || got != want {
		t.Errorf("Write(%+v) = %q, %v; want %q", e, got, err, want)
	}
	reads(t, want, e)
}

// writesNot, and the text beside the error is the empty one.
func writesNot(t *testing.T, e api.Event) {
	t.Helper()
	if got, err := event.Write(e); err != api.ErrForm || got != "" {
		t.Errorf("Write(%+v) = %q, %v; want %v", e, got, err, api.ErrForm)
	}
}

// P26.1, P26.2: the chapter's examples.
func TestExamples(t *testing.T) {
	writes(t, comes(7, api.Request{User: "u", Verb: "get", Resource: "pods", Space: "ns", Objects: 3}), "new 7 u - get pods ns 3")
	writes(t, load("total 5\nperiod 2"), "load total 5;period 2")
	readsNot(t, "tick 0", api.ErrRange)
	readsNot(t, "done", api.ErrForm)
}

// P26.1: each kind; what it does not name is zero.
func TestEachKind(t *testing.T) {
	reads(t, usualLine, comes(7, usual()))
	reads(t, "done 8", done(8))
	reads(t, "drop 9", drop(9))
	reads(t, "tick 10", tick(10))
	reads(t, "load level a exempt", load("level a exempt"))
}

// P26.1: ErrForm of a line that has no first word.
func TestNoWord(t *testing.T) {
	for n := range 40 {
		readsNot(t, strings.Repeat(" ", n), api.ErrForm)
	}
}

// P26.1: a blank is the byte 32 and none else.
func TestWhatIsNoBlank(t *testing.T) {
	for _, sign := range notBlank {
		for _, line := range []string{sign, " " + sign + " ", sign + "tick 1", sign + " tick 1", "tick" + sign + "1", "tick" + sign + " 1", sign + "load", "load" + sign, "load" + sign + "x", "load" + sign + " x", strings.ReplaceAll(usualLine, " ", sign)} {
			readsNot(t, line, api.ErrForm)
		}
		readsNot(t, "tick "+sign, api.ErrRange)
		readsNot(t, "tick "+sign+"1", api.ErrRange)
		readsNot(t, "tick 1"+sign, api.ErrRange)
		readsNot(t, "tick 1 "+sign, api.ErrForm)
		readsNot(t, "new 1 u"+sign+"- get pods - 1", api.ErrForm)
		readsNot(t, "new 1 u"+sign+" - get pods - 1", api.ErrName)
		reads(t, "load "+sign, load(sign))
	}
}

// P26.1: blanks ahead of the first word, between words and behind the last one, as many as there may be.
func TestBlanks(t *testing.T) {
	for _, e := range each()[:4] {
		line, _ := event.Write(e)
		w := strings.Split(line, " ")
		for n := 1; n < 20; n++ {
			gap := strings.Repeat(" ", n)
			reads(t, gap+line, e)
			reads(t, line+gap, e)
			reads(t, strings.Join(w, gap), e)
			reads(t, gap+strings.Join(w, gap)+gap, e)
			reads(t, w[0]+gap+strings.Join(w[1:], " "), e)
		}
	}
}

// P26.1: ErrForm of a first word that is none of the five, like them though it is.
func TestFirstWord(t *testing.T) {
	rest := map[string]string{"new": usualLine[len("new"):], "done": " 7", "drop": " 7", "tick": " 7", "load": " total 7"}
	for w, r := range rest {
		if _, e := event.Read(w + r); e != api.OK {
			t.Fatalf("Read(%q): %v", w+r, e)
		}
		like := []string{"x" + w, w + "x", w + "s", w + "-", w + ":", w + ";", "#" + w, w + w, w + "1", w + "7", w[1:], w[:len(w)-1], w + "\x00", "\x00" + w,
			strings.ToUpper(w), strings.ToUpper(w[:1]) + w[1:], w[:len(w)-1] + strings.ToUpper(w[len(w)-1:]), "", "-", "*", "#", "started", "event", "1", "é"}
		for _, other := range like {
			if _, there := rest[other]; !there {
				readsNot(t, other+r, api.ErrForm)
				readsNot(t, "  "+other+" "+r, api.ErrForm)
				readsNot(t, other, api.ErrForm)
			}
		}
		// A second word is no first one.
		readsNot(t, "7 "+w+r, api.ErrForm)
		readsNot(t, "# "+w+r, api.ErrForm)
	}
}

// P26.1: ErrForm of each kind but load with too few words, or too many, whatever they are.
func TestHowManyWords(t *testing.T) {
	size := map[string]int{"new": 7, "done": 1, "drop": 1, "tick": 1}
	for first, want := range size {
		for _, w := range []string{"1", "x", "-", "*", ",", "\xff", longest + "W"} {
			for n := range 20 {
				if n != want {
					line := first + strings.Repeat(" "+w, n)
					readsNot(t, line, api.ErrForm)
					readsNot(t, line+"  ", api.ErrForm)
				}
			}
		}
	}
	w := strings.Split(usualLine, " ")
	for n := range w {
		readsNot(t, strings.Join(w[:n], " "), api.ErrForm)
		readsNot(t, usualLine+strings.Repeat(" x", n+1), api.ErrForm)
	}
	// No word may be left out: - stands for what is not there.
	readsNot(t, "new 7 u get pods ns 3", api.ErrForm)
	readsNot(t, "new 7 u - get pods 3", api.ErrForm)
}

// P26.1: an ID is a number from 0 to MaxID, of each kind that has one.
func TestID(t *testing.T) {
	tails := map[string]func(id int) api.Event{
		"new @ u g,h get pods ns 3": func(id int) api.Event { return comes(id, usual()) },
		"done @":                    done,
		"drop @":                    drop,
	}
	for line, want := range tails {
		for w, id := range map[string]int{"0": 0, "1": 1, "7": 7, "10": 10, "1001": 1001, "1048577": 1048577, "999999998": api.MaxID - 1, "999999999": api.MaxID} {
			writes(t, want(id), strings.Replace(line, "@", w, 1))
		}
		for _, w := range noNumbers {
			readsNot(t, strings.Replace(line, "@", w, 1), api.ErrRange)
		}
		for _, id := range []int{math.MinInt, -1 << 32, -api.MaxID, -1, api.MaxID + 1, 1 << 32, 1<<32 + 1, math.MaxInt} {
			writesNot(t, want(id))
		}
	}
}

// P26.1: OBJECTS is a number from 0 to MaxObjects.
func TestObjects(t *testing.T) {
	of := func(n int) api.Event {
		q := usual()
		q.Objects = n
		return comes(7, q)
	}
	head := strings.TrimSuffix(usualLine, "3")
	for w, n := range map[string]int{"0": 0, "1": 1, "10": 10, "1001": 1001, "1048575": api.MaxObjects - 1, "1048576": api.MaxObjects} {
		writes(t, of(n), head+w)
	}
	for _, w := range append(noNumbers[:], "1048577", "1048586", "2097152", "999999999") {
		readsNot(t, head+w, api.ErrRange)
	}
	for _, n := range []int{math.MinInt, -1 << 32, -1, api.MaxObjects + 1, api.MaxID, 1 << 32, 1<<32 + 1, math.MaxInt} {
		writesNot(t, of(n))
	}
}

// P26.1: N is a number from 1 to MaxStep.
func TestN(t *testing.T) {
	for w, n := range map[string]int{"1": 1, "2": 2, "10": 10, "999": api.MaxStep - 1, "1000": api.MaxStep} {
		writes(t, tick(n), "tick "+w)
	}
	for _, w := range append(noNumbers[:], "0", "1001", "1010", "10000", "999999999") {
		readsNot(t, "tick "+w, api.ErrRange)
	}
	for _, n := range []int{math.MinInt, -1 << 32, -1, 0, api.MaxStep + 1, api.MaxID, 1 << 32, 1<<32 + 1, math.MaxInt} {
		writesNot(t, tick(n))
	}
}

// P26.1, P26.2: USER, VERB and RESOURCE are words, SPACE is one, or - for the empty text.
func TestWords(t *testing.T) {
	places := map[string]func(q *api.Request) *string{
		"new 7 @ g,h get pods ns 3": func(q *api.Request) *string { return &q.User },
		"new 7 u g,h @ pods ns 3":   func(q *api.Request) *string { return &q.Verb },
		"new 7 u g,h get @ ns 3":    func(q *api.Request) *string { return &q.Resource },
		"new 7 u g,h get pods @ 3":  func(q *api.Request) *string { return &q.Space },
	}
	for line, place := range places {
		with := func(w string) api.Event {
			q := usual()
			*place(&q) = w
			return comes(7, q)
		}
		for _, w := range []string{"a", "Z", "0", "9", "007", ".", "_", ":", "/", "@", "--", "-a", "a-", "new", "load", "a.b_c:d/e@f-G9", "system:node:n-1", longest, longest[1:]} {
			writes(t, with(w), strings.Replace(line, "@", w, 1))
		}
		for _, w := range noWords {
			readsNot(t, strings.Replace(line, "@", w, 1), api.ErrName)
			writesNot(t, with(w))
		}
		for _, w := range []string{"-", " ", "a b", "a ", " a", "a  "} {
			writesNot(t, with(w))
		}
		if strings.Contains(line, "pods @") {
			writes(t, with(""), strings.Replace(line, "@", "-", 1))
		} else {
			readsNot(t, strings.Replace(line, "@", "-", 1), api.ErrName)
			writesNot(t, with(""))
		}
	}
}

// P26.1, P26.2: GROUPS are a list of layer 8.
func TestGroups(t *testing.T) {
	line := func(list string) string { return "new 7 u " + list + " get pods ns 3" }
	with := func(groups ...string) api.Event {
		q := usual()
		q.Groups = groups
		return comes(7, q)
	}
	writes(t, with(), line("-"))
	writes(t, with([]string{}...), line("-"))
	writes(t, with("*"), line("*"))
	most := strings.Split("a,B,3,d,e,f,g,"+longest, ",")
	for n := 1; n <= api.MaxWords; n++ {
		writes(t, with(most[:n]...), line(strings.Join(most[:n], ",")))
		writes(t, with(most[api.MaxWords-n:]...), line(strings.Join(most[api.MaxWords-n:], ",")))
	}
	for _, w := range []string{",", ",,", ",a", "a,", "a,,b", ",a,", "a,a", "a,b,a", "b,a,a", "a,*", "*,a", "*,*", "**", "-,a", "a,-", "-,-", "-,", "a;b", "a,é", "\xff", longest + "W", "a," + longest + "W",
		"a,b,c,d,e,f,g,h,i", "a,b,c,d,e,f,g,h,", "a,b,c,d,e,f,g,h,a", strings.Repeat("a,", 4000) + "a"} {
		readsNot(t, line(w), api.ErrForm)
		writesNot(t, with(strings.Split(w, ",")...))
	}
	for _, groups := range [][]string{{""}, {"-"}, {"a", ""}, {"", "a"}, {"a,b"}, {"a", "b,c"}, {"a b"}, {" "}, {"a", " b"}, {"a get"}, {"a", "a"}, {"*", "a"}, {"a", "*"}, {"*", "*"}, append(most, "i"), make([]string, 8), make([]string, 4000)} {
		writesNot(t, with(groups...))
	}
}

// P26.1: where several words are wrong, what is wrong first is told; how many there are is asked ahead of it all.
func TestTheFirstError(t *testing.T) {
	right := strings.Split(usualLine, " ")
	wrong := []string{"new", "x", "*", ",", "*", "*", "*", "x"}
	errs := []api.Errno{api.OK, api.ErrRange, api.ErrName, api.ErrForm, api.ErrName, api.ErrName, api.ErrName, api.ErrRange}
	for set := range 1 << 7 {
		w, want := []string{"new"}, api.OK
		for i := 1; i < len(right); i++ {
			if set>>(i-1)&1 == 0 {
				w = append(w, right[i])
				continue
			}
			w = append(w, wrong[i])
			if want == api.OK {
				want = errs[i]
			}
		}
		line := strings.Join(w, " ")
		if want == api.OK {
			reads(t, line, comes(7, usual()))
		} else {
			readsNot(t, line, want)
		}
		readsNot(t, line+" x", api.ErrForm)
		readsNot(t, strings.Join(w[:7], " "), api.ErrForm)
		readsNot(t, "x"+line, api.ErrForm)
	}
	readsNot(t, "tick x y", api.ErrForm)
	readsNot(t, "done -1 -1", api.ErrForm)
}

// P26.1: the text of a load: what stands behind the word and behind one blank, each ; a newline.
func TestLoadText(t *testing.T) {
	for line, text := range map[string]string{
		"load": "", "load ": "", "  load": "", "   load ": "",
		"load  ": " ", "load     ": "    ", "load x": "x", "load  x": " x", " load   x": "  x",
		"load x ": "x ", "load x   ": "x   ", "load  x y  z ": " x y  z ",
		"load ;": "\n", "load ;;": "\n\n", "load  ; ;": " \n \n", "load a;b": "a\nb", "load ;a;;b;": "\na\n\nb\n", "load ; ": "\n ",
		"load \n": "\n", "load a\nb": "a\nb", "load a\n;b\n": "a\n\nb\n", "load  \n x": " \n x",
		"load load": "load", "load  load x": " load x", "load -": "-", "load *,": "*,", "load # x": "# x", "load \t": "\t", "load \xff\x00é": "\xff\x00é",
		"load tick 1": "tick 1", "load total 5;period 2": "total 5\nperiod 2",
	} {
		reads(t, line, load(text))
	}
	// There is no word too many, nor a text too long, for it.
	long := strings.Repeat("level a 5 0 all reject ; ", 50000)
	reads(t, "load "+long, load(strings.ReplaceAll(long, ";", "\n")))
	for _, line := range []string{"load;", "load;x", ";load", "load\n", "load\nx", "\nload x", "Load x", "loads x", "l oad x"} {
		readsNot(t, line, api.ErrForm)
	}
}

// P26.2: a load's text, blanks ahead and behind it, too; of an empty one just the word; ErrForm of one with a ;.
func TestWriteLoad(t *testing.T) {
	for text, line := range map[string]string{
		"": "load", " ": "load  ", "   ": "load    ", "x": "load x", " x": "load  x", "  x y  ": "load   x y  ",
		"\n": "load ;", "\n\n": "load ;;", "a\nb": "load a;b", "\na\n\nb\n": "load ;a;;b;", " \n ": "load  ; ", "\t": "load \t", "\xff\x00é": "load \xff\x00é",
		"load": "load load", "#": "load #", "-": "load -", "total 5\nperiod 2": "load total 5;period 2",
	} {
		writes(t, load(text), line)
	}
	long := strings.Repeat("level a 5 0 all reject \n ", 50000)
	writes(t, load(long), "load "+strings.ReplaceAll(long, "\n", ";"))
	for _, text := range []string{";", ";;", "a;", ";a", "a;b", " ;", "; ", "a\n;b", ";\n", "\n;", long + ";"} {
		writesNot(t, load(text))
	}
}

// P26.2: ErrForm of a field that the kind does not name and that isn't zero, one at a time.
func TestWhatAKindDoesNotName(t *testing.T) {
	fields := map[string]func(e *api.Event){
		"ID":       func(e *api.Event) { e.ID = 1 },
		"ID below": func(e *api.Event) { e.ID = -1 },
		"N":        func(e *api.Event) { e.N = 1 },
		"N below":  func(e *api.Event) { e.N = -1 },
		"User":     func(e *api.Event) { e.Request.User = "u" },
		"Groups":   func(e *api.Event) { e.Request.Groups = []string{"g"} },
		"no group": func(e *api.Event) { e.Request.Groups = []string{""} },
		"Verb":     func(e *api.Event) { e.Request.Verb = "get" },
		"Resource": func(e *api.Event) { e.Request.Resource = "pods" },
		"Space":    func(e *api.Event) { e.Request.Space = "ns" },
		"no space": func(e *api.Event) { e.Request.Space = "-" },
		"Objects":  func(e *api.Event) { e.Request.Objects = 1 },
		"below":    func(e *api.Event) { e.Request.Objects = -1 },
		"Text":     func(e *api.Event) { e.Text = "x" },
		"blank":    func(e *api.Event) { e.Text = " " },
		"newline":  func(e *api.Event) { e.Text = "\n" },
		"parting":  func(e *api.Event) { e.Text = ";" },
	}
	named := map[int][]string{
		api.New:  {"ID", "User", "Groups", "Verb", "Resource", "Space", "Objects"},
		api.Done: {"ID"},
		api.Drop: {"ID"},
		api.Tick: {"N"},
		api.Load: {"Text", "blank", "newline"},
	}
	for _, e := range each() {
		writesToSomething(t, e)
		for name, set := range fields {
			other := e
			set(&other)
			may := false
			for _, n := range named[e.Kind] {
				may = may || n == name
			}
			if may {
				writesToSomething(t, other)
			} else {
				writesNot(t, other)
			}
		}
		// Groups that are empty are none.
		if e.Kind != api.New {
			e.Request.Groups = []string{}
			writesToSomething(t, e)
		}
	}
}

func writesToSomething(t *testing.T, e api.Event) {
	t.Helper()
	line, err := event.Write(e)
	if err != api.OK || line == "" {
		t.Errorf("Write(%+v) = %q, %v", e, line, err)
	}
	reads(t, line, e)
}

// P26.2: ErrForm of a kind that there isn't, whatever stands in the fields, and of each kind with nothing in them
// but for load.
func TestNoKind(t *testing.T) {
	for _, kind := range noKinds {
		writesNot(t, api.Event{Kind: kind})
		for _, e := range each() {
			e.Kind = kind
			writesNot(t, e)
		}
	}
	writesNot(t, api.Event{Kind: api.New})
	writesNot(t, api.Event{Kind: api.Tick})
	writes(t, api.Event{Kind: api.Done}, "done 0")
	writes(t, api.Event{Kind: api.Drop}, "drop 0")
	writes(t, api.Event{Kind: api.Load}, "load")
	// One kind's fields are not another one's, but for the two that name an ID alone.
	alone := func(kind int) bool { return kind == api.Done || kind == api.Drop }
	for _, kind := range kinds {
		for _, e := range each() {
			same := e.Kind == kind || alone(e.Kind) && alone(kind)
			e.Kind = kind
			if same {
				writesToSomething(t, e)
			} else {
				writesNot(t, e)
			}
		}
	}
}

// P26.2: a request's fields lie at the places that the chapter gives them, each by itself.
func TestPlaces(t *testing.T) {
	writes(t, comes(1, api.Request{User: "a", Groups: []string{"b"}, Verb: "c", Resource: "d", Space: "e", Objects: 2}), "new 1 a b c d e 2")
	writes(t, comes(0, api.Request{User: "a", Verb: "c", Resource: "d"}), "new 0 a - c d - 0")
	writes(t, comes(2, api.Request{User: "1", Groups: []string{"2", "3"}, Verb: "4", Resource: "5", Space: "6", Objects: 7}), "new 2 1 2,3 4 5 6 7")
}
