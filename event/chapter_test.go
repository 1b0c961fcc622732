package event_test

import (
	"reflect"
	"regexp"
	"slices"
	"strconv"
	"strings"
	"testing"

	"usher/api"
	"usher/event"
)

// random are numbers, the same ones each time.
type random uint64

func (r *random) next() uint64 {
	x := uint64(*r)
	x ^= x << 13
	x ^= x >> 7
	x ^= x << 17
	*r = random(x)
	return x
}

func (r *random) below(n int) int { return int((r.next() >> 11) % uint64(n)) }

func pick[T any](r *random, of ...T) T { return of[r.below(len(of))] }

// mostly what is right, else what is wrong.
func mostly[T any](r *random, right, wrong T) T {
	if r.below(30) > 0 {
		return right
	}
	return wrong
}

const seed = random(88172645463325252)

// What follows is the chapter once more, by other means: a line is held against patterns.

var (
	aNumber = regexp.MustCompile(`^(0|[1-9][0-9]{0,8})$`)
	aWord   = regexp.MustCompile(`^[a-zA-Z0-9._:/@-]{1,64}$`)
	aLoad   = regexp.MustCompile(`(?s)^ *load(?: (.*))?$`)
	shapes  = map[string]string{"new": "#@,@@_#", "done": "#", "drop": "#", "tick": "#"}
)

func wantWords(line string) []string {
	return slices.DeleteFunc(strings.Split(line, " "), func(w string) bool { return w == "" })
}

func wantWord(w string) bool { return aWord.MatchString(w) && w != "-" }

func wantList(w string) ([]string, bool) {
	if w == "-" {
		return nil, true
	}
	l := strings.Split(w, ",")
	if w == "*" {
		return l, true
	}
	seen := map[string]int{}
	for _, x := range l {
		seen[x]++
		if !wantWord(x) || seen[x] > 1 {
			return nil, false
		}
	}
	return l, len(l) <= 8
}

// wantErr of one word, by the sign of its place.
func wantErr(sign rune, w string, least, most int) api.Errno {
	switch sign {
	case '#':
		n, err := strconv.Atoi(w)
		if err != nil || !aNumber.MatchString(w) || n < least || n > most {
			return 8
		}
	case '_':
		if !aWord.MatchString(w) {
			return 4
		}
	case '@':
		if !wantWord(w) {
			return 4
		}
	case ',':
		if _, ok := wantList(w); !ok {
			return 2
		}
	}
	return 0
}

func wantRead(line string) (api.Event, api.Errno) {
	if m := aLoad.FindStringSubmatch(line); m != nil {
		return api.Event{Kind: 5, Text: strings.Join(strings.Split(m[1], ";"), "\n")}, 0
	}
	w := wantWords(line)
	if len(w) == 0 {
		return api.Event{}, 2
	}
	shape, ok := shapes[w[0]]
	if !ok || len(shape) != len(w)-1 {
		return api.Event{}, 2
	}
	for i, sign := range shape {
		least, most := 0, 999999999
		if w[0] == "tick" {
			least, most = 1, 1000
		}
		if i == 6 {
			most = 1048576
		}
		if e := wantErr(sign, w[1+i], least, most); e != 0 {
			return api.Event{}, e
		}
	}
	n, _ := strconv.Atoi(w[1])
	switch w[0] {
	case "done":
		return api.Event{Kind: 2, ID: n}, 0
	case "drop":
		return api.Event{Kind: 3, ID: n}, 0
	case "tick":
		return api.Event{Kind: 4, N: n}, 0
	}
	q := api.Request{User: w[2], Verb: w[4], Resource: w[5], Space: w[6]}
	q.Groups, _ = wantList(w[3])
	q.Objects, _ = strconv.Atoi(w[7])
	if q.Space == "-" {
		q.Space = ""
	}
	return api.Event{Kind: 1, ID: n, Request: q}, 0
}

// wantWrite says what may be written by the fields alone.
func wantWrite(e api.Event) (string, api.Errno) {
	q, bare := e.Request, e
	bare.Request.Groups = nil
	n := e.ID
	switch e.Kind {
	case 1:
		return wantWriteNew(e)
	case 2, 3:
		bare.ID = 0
	case 4:
		n, bare.N = e.N, 0
	case 5:
		bare.Text = ""
	}
	if !reflect.DeepEqual(bare, api.Event{Kind: e.Kind}) || len(q.Groups) > 0 {
		return "", 2
	}
	switch {
	case e.Kind == 2 && n >= 0 && n <= 999999999:
		return "done " + strconv.Itoa(n), 0
	case e.Kind == 3 && n >= 0 && n <= 999999999:
		return "drop " + strconv.Itoa(n), 0
	case e.Kind == 4 && n >= 1 && n <= 1000:
		return "tick " + strconv.Itoa(n), 0
	case e.Kind == 5 && e.Text == "":
		return "load", 0
	case e.Kind == 5 && !strings.Contains(e.Text, ";"):
		return "load " + strings.Join(strings.Split(e.Text, "\n"), ";"), 0
	}
	return "", 2
}

func wantWriteNew(e api.Event) (string, api.Errno) {
	q := e.Request
	list, space := strings.Join(q.Groups, ","), q.Space
	if len(q.Groups) == 0 {
		list = "-"
	}
	if space == "" {
		space = "-"
	} else if !wantWord(space) {
		return "", 2
	}
	// A list of the one text -, or of the one text *,... is told by a piece that is another list, or none.
	l, ok := wantList(list)
	switch {
	case e.N != 0, e.Text != "", e.ID < 0, e.ID > 999999999, q.Objects < 0, q.Objects > 1048576,
		!wantWord(q.User), !wantWord(q.Verb), !wantWord(q.Resource), !ok, !slices.Equal(l, q.Groups):
		return "", 2
	}
	return strings.Join([]string{"new", strconv.Itoa(e.ID), q.User, list, q.Verb, q.Resource, space, strconv.Itoa(q.Objects)}, " "), 0
}

// What is drawn: words, lists, numbers and texts, of which some may not stand where they do.

func (r *random) word() string {
	right := pick(r, "u", "get", "list", "watch", "pods", "new", "0", "7", "a.b_c:d/e@f-G", "--", longest, strings.Repeat(pick(r, "a", "Z", "/"), 1+r.below(api.MaxWord)))
	return mostly(r, right, pick(r, "-", "", " ", "a b", pick(r, noWords[:]...), pick(r, notBlank[:]...)))
}

func (r *random) groups() []string {
	var l []string
	for range pick(r, 0, 1, 1, 2, 3, r.below(api.MaxWords+1)) {
		l = append(l, "g"+strconv.Itoa(r.below(90)))
	}
	return mostly(r, l, pick(r, []string{"*"}, []string{}, []string{r.word(), r.word()}, []string{"-"}, append(l, ""), append(l, l...), append(l, "*"), strings.Split("a,b,c,d,e,f,g,h,i", ",")))
}

func (r *random) list() string {
	l := r.groups()
	return mostly(r, pick(r, "-", "*", "a", "a,b", "b,a,c", strings.Join(l, ",")), pick(r, "", ",", "a,", ",a", "a,a", "*,a", "-,a", "a,b,c,d,e,f,g,h,i", r.word()))
}

// number at the edges of 0, 1, one of the limits, or any.
func (r *random) number(most int) int {
	return mostly(r, pick(r, 0, 1, 7, most, 1+r.below(most)), pick(r, -1, most+1, api.MaxID+1, 1<<32+1, int(r.next()), -r.below(1000)))
}

func (r *random) text() string {
	b := strings.Builder{}
	for range pick(r, 0, 1, 2, r.below(8), r.below(60)) {
		b.WriteString(pick(r, " ", "  ", "\n", "x", "total 5", "load", "-", mostly(r, "a", ";"), pick(r, notBlank[:]...), string([]byte{byte(r.next() >> 30)})))
	}
	return b.String()
}

func (r *random) request() api.Request {
	return api.Request{User: r.word(), Groups: r.groups(), Verb: r.word(), Resource: r.word(), Space: pick(r, "", r.word()), Objects: r.number(api.MaxObjects)}
}

// event whose kind names what stands in it, mostly.
func (r *random) event() api.Event {
	e := api.Event{Kind: pick(r, kinds[:]...)}
	switch e.Kind {
	case api.New:
		e.ID, e.Request = r.number(api.MaxID), r.request()
	case api.Done, api.Drop:
		e.ID = r.number(api.MaxID)
	case api.Tick:
		e.N = r.number(api.MaxStep)
	case api.Load:
		e.Text = r.text()
	}
	if r.below(12) > 0 {
		return e
	}
	other := pick(r, api.Event{Kind: e.Kind, ID: 1}, comes(1, r.request()), tick(r.number(2)), load(r.text()))
	switch r.below(5) {
	case 0:
		e.ID = other.ID
	case 1:
		e.N = other.N
	case 2:
		e.Text = other.Text
	case 3:
		e.Request = other.Request
	case 4:
		e.Kind = pick(r, pick(r, kinds[:]...), pick(r, noKinds[:]...))
	}
	return e
}

func (r *random) digits(most int) string {
	return mostly(r, strconv.Itoa(r.number(most)), pick(r, noNumbers[:]...))
}

func (r *random) gap() string { return strings.Repeat(" ", mostly(r, 1, r.below(5))) }

// line of any kind, with any gaps, and now and then a piece too many, or a byte that is another one.
func (r *random) line() string {
	var w []string
	switch pick(r, kinds[:]...) {
	case api.New:
		w = []string{"new", r.digits(api.MaxID), r.word(), r.list(), r.word(), r.word(), pick(r, "-", r.word()), r.digits(api.MaxObjects)}
	case api.Done:
		w = []string{"done", r.digits(api.MaxID)}
	case api.Drop:
		w = []string{"drop", r.digits(api.MaxID)}
	case api.Tick:
		w = []string{"tick", r.digits(api.MaxStep)}
	case api.Load:
		w = []string{"load", r.text()}
	}
	switch r.below(30) {
	case 0:
		w = slices.Insert(w, r.below(len(w)+1), r.word())
	case 1:
		w = slices.Delete(w, 0, r.below(len(w)+1))
	case 2:
		w = w[:r.below(len(w)+1)]
	}
	b := []byte(pick(r, "", r.gap()))
	for i, x := range w {
		if i > 0 {
			b = append(b, r.gap()...)
		}
		b = append(b, x...)
	}
	b = append(b, pick(r, "", "", r.gap())...)
	if len(b) > 0 && r.below(20) == 0 {
		b[r.below(len(b))] = pick(r, ' ', ';', ',', '-', '*', '\n', '0', 'A', byte(r.next()>>30))
	}
	return string(b)
}

// P26.1: what the chapter says of a line, drawn: each error, and each kind, comes up.
func TestReadIsTheChapter(t *testing.T) {
	r := seed
	seen := map[int]int{}
	for range 60000 {
		line := r.line()
		want, wantErr := wantRead(line)
		got, e := event.Read(line)
		if e != wantErr || !equal(got, want) {
			t.Fatalf("Read(%q) = %+v, %v; want %+v, %v", line, got, e, want, wantErr)
		}
		seen[want.Kind]++
		seen[100+int(e)]++
	}
	for _, what := range []int{api.New, api.Done, api.Drop, api.Tick, api.Load, 100 + int(api.ErrForm), 100 + int(api.ErrName), 100 + int(api.ErrRange)} {
		if seen[what] < 500 {
			t.Errorf("%d came up %d times", what, seen[what])
		}
	}
}

// P26.2: what the chapter says of an event, drawn: each kind, written and refused, comes up.
func TestWriteIsTheChapter(t *testing.T) {
	r := seed
	seen := map[int]int{}
	for range 60000 {
		e := r.event()
		want, wantErr := wantWrite(e)
		got, err := event.Write(e)
		if err != wantErr || got != want {
			t.Fatalf("Write(%+v) = %q, %v; want %q, %v", e, got, err, want, wantErr)
		}
		if e.Kind >= api.New && e.Kind <= api.Load {
			seen[e.Kind+100*int(err)]++
		}
	}
	for _, kind := range kinds {
		if seen[kind] < 500 || seen[kind+200] < 100 {
			t.Errorf("kind %d: %d written, %d refused", kind, seen[kind], seen[kind+200])
		}
	}
}
