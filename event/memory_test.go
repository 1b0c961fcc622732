package event_test

import (
	"math"
	"reflect"
	"slices"
	"strings"
	"testing"

	"usher/api"
	"usher/event"
)

// handed are groups in a list that has spare room: the groups, and the whole list.
func handed(n, spare int) (l, whole []string) {
	for i := range n + spare {
		whole = append(whole, "g"+string(rune('a'+i)))
	}
	whole = slices.Clip(whole)
	return whole[:n], whole
}

// spoil a list, and its spare room.
func spoil(l []string) {
	whole := l[:cap(l)]
	for i := range whole {
		whole[i] = "spoiled"
	}
}

// Rule 3: the groups that are handed in stay as they were, their spare room, too, where the event is written and where
// it is refused; rule 4: and the line is the same again.
func TestNothingIsChanged(t *testing.T) {
	for n := range api.MaxWords + 3 {
		for spare := range 4 {
			l, whole := handed(n, spare)
			before := slices.Clone(whole)
			for _, kind := range append(kinds[:], noKinds[:]...) {
				e := comes(7, usual())
				e.Kind, e.Request.Groups = kind, l
				copied := e
				first, err := event.Write(e)
				for range 3 {
					event.Write(comes(8, usual()))
					if again, e2 := event.Write(e); again != first || e2 != err {
						t.Fatalf("Write(%+v) = %q, %v; then %q, %v", e, first, err, again, e2)
					}
				}
				if !reflect.DeepEqual(e, copied) || len(l) != n || !slices.Equal(whole, before) {
					t.Fatalf("%v was made of %v", whole, before)
				}
			}
		}
	}
}

// Rule 3: what is answered is new memory: groups that are written over, with their spare room, change no other
// answer, and what is put behind them lands in none.
func TestAnswersAreNew(t *testing.T) {
	for _, list := range []string{"-", "*", "a", "a,b", "a,b,c", "a,b,c,d,e,f,g,h"} {
		line := "new 7 u " + list + " get pods ns 3"
		first, _ := event.Read(line)
		want := slices.Clone(first.Request.Groups)
		other, _ := event.Read(line)
		spoil(other.Request.Groups)
		_ = append(other.Request.Groups, "x", "y")
		third, _ := event.Read(line)
		if !slices.Equal(first.Request.Groups, want) || !slices.Equal(third.Request.Groups, want) {
			t.Fatalf("%v, %v; want %v", first, third, want)
		}
		_ = append(third.Request.Groups, "x", "y")
		if written, e := event.Write(first); e != api.OK || written != line {
			t.Fatalf("Write(%+v) = %q, %v", first, written, e)
		}
	}
}

// Rule 3: the groups that are handed in are not kept: written over, they change no line that was answered, and no
// later one.
func TestNothingIsKept(t *testing.T) {
	l, whole := handed(3, 2)
	q := usual()
	q.Groups = l
	line, _ := event.Write(comes(7, q))
	want := strings.Clone(line)
	spoil(whole)
	if line != want || line != "new 7 u ga,gb,gc get pods ns 3" {
		t.Fatalf("%q; want %q", line, want)
	}
	writes(t, comes(7, usual()), usualLine)
}

// Rule 3: nil and an empty list are the same; rule 2: beside an error there is nothing.
func TestNilAndEmpty(t *testing.T) {
	none := usual()
	shut, _ := handed(0, 3)
	for _, groups := range [][]string{nil, {}, shut, make([]string, 0, 9)} {
		none.Groups = groups
		writes(t, comes(7, none), "new 7 u - get pods ns 3")
		for _, e := range each()[1:] {
			e.Request.Groups = groups
			if line, err := event.Write(e); err != api.OK || line == "" {
				t.Errorf("Write(%+v) = %q, %v", e, line, err)
			}
		}
	}
}

// Rule 1: every call ends, and none panics, whatever is handed in.
func TestAnyArguments(t *testing.T) {
	r := seed
	for range 30000 {
		b := make([]byte, r.below(40))
		for i := range b {
			b[i] = pick(&r, ' ', ' ', 'l', 'o', 'a', 'd', '1', ',', '-', '*', ';', byte(r.next()>>30))
		}
		line := pick(&r, "", "new ", "done ", "load ", "tick") + string(b)
		e, err := event.Read(line)
		if err != api.OK && !reflect.DeepEqual(e, api.Event{}) {
			t.Fatalf("Read(%q) = %+v, %v", line, e, err)
		}
		piece := func() string { return string(b[:r.below(len(b)+1)]) }
		n := func() int { return pick(&r, math.MinInt, math.MaxInt, -1, 0, 1, 2, 5, int(r.next())) }
		e = api.Event{Kind: pick(&r, r.below(7), n()), ID: n(), N: n(), Text: piece(),
			Request: api.Request{User: piece(), Groups: strings.Split(piece(), pick(&r, " ", "1", ",")), Verb: piece(), Resource: piece(), Space: piece(), Objects: n()}}
		if line, err := event.Write(e); err != api.OK && line != "" {
			t.Fatalf("Write(%+v) = %q, %v", e, line, err)
		}
	}
}

// Rule 1: it ends of much, too.
func TestMuch(t *testing.T) {
	for _, piece := range []string{" ", "x", "new ", ";", ",", "9", "a,", "\xff", "load", "load ", " 1"} {
		much := strings.Repeat(piece, 1<<20/len(piece))
		for _, head := range []string{"", "new 1 ", "new 1 u ", "new 1 u - get pods ns ", "done ", "tick ", "load ", " "} {
			e, err := event.Read(head + much)
			if line, writeErr := event.Write(e); err == api.OK && (writeErr != api.OK || line == "") {
				t.Errorf("Read of %q and much of %q: %v, %v", head, piece, err, writeErr)
			}
		}
		q := usual()
		q.User = much
		writesNotMuch(t, comes(7, q))
		q.User, q.Groups = "u", slices.Repeat([]string{piece}, 1<<20)
		writesNotMuch(t, comes(7, q))
		writesNotMuch(t, api.Event{Kind: api.Done, Text: much})
	}
}

func writesNotMuch(t *testing.T, e api.Event) {
	t.Helper()
	if line, err := event.Write(e); err != api.ErrForm || line != "" {
		t.Errorf("Write of much = %d bytes, %v", len(line), err)
	}
}
