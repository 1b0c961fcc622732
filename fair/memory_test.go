package fair_test

import (
	"fmt"
	"math"
	"slices"
	"testing"

	"usher/api"
	"usher/fair"
)

// spoil a list, and its spare room.
func spoil(list []api.Ticket) {
	whole := list[:cap(list)]
	for i := range whole {
		whole[i] = api.Ticket{ID: -77, Width: -77, Seats: -77, Since: -77, Until: -77}
	}
}

// spoilAll that lanes hold: those who wait and the lanes themselves, with their spare room.
func spoilAll(lanes []api.Lane) {
	whole := lanes[:cap(lanes)]
	for i := range whole {
		spoil(whole[i].Wait)
		whole[i] = api.Lane{Start: 77, Wait: []api.Ticket{ticket(-78, -78)}}
	}
}

// handed are lanes with spare room, and so are those who wait in them; the last three lanes are empty or shut.
func handed(spare int) api.Fair {
	f := queues(4)
	f.Length = 5
	id := 0
	for _, n := range []int{2, 0, 3, 1, 0, 1, 0} {
		var wait []api.Ticket
		for range n + spare {
			id++
			wait = append(wait, ticket(id, id))
		}
		f.Lanes = append(f.Lanes, api.Lane{Start: uint64(50 + id), Wait: slices.Clip(wait)[:n]})
	}
	for range spare {
		f.Lanes = append(f.Lanes, queue(1, ticket(-1, 1)))
	}
	f.Lanes = slices.Clip(f.Lanes)[:7]
	return f
}

// nobody is what was handed in, with nobody who waits, in the same memory.
func nobody(f api.Fair) api.Fair {
	f.Lanes = slices.Clone(f.Lanes)
	for i := range f.Lanes {
		f.Lanes[i].Wait = f.Lanes[i].Wait[:0]
	}
	return f
}

// ask for all answers that are lanes; with those beside them told as a text.
func ask(f api.Fair, hand []int) ([]api.Fair, string) {
	joined, lane, e := fair.Join(f, hand, ticket(500, 2))
	other, otherLane, e2 := fair.Join(f, []int{2}, ticket(501, 2))
	taken, x, ok := fair.Take(f)
	untaken, y, ok2 := fair.Take(nobody(f))
	dropped, z, ok3 := fair.Drop(f, f.Lanes[3].Wait[0].ID)
	last, v, ok4 := fair.Drop(f, f.Lanes[5].Wait[0].ID)
	undropped, w, ok5 := fair.Drop(f, math.MinInt)
	more, e3 := fair.Shape(f, 9, 10, 5)
	equal, e4 := fair.Shape(f, 7, 10, 5)
	fewer, e5 := fair.Shape(f, 1, 10, 5)
	shut := fair.Shut(f)
	gone := fair.Shut(nobody(f))
	next, waits := fair.Next(f)
	text := fmt.Sprint(lane, e, otherLane, e2, x, ok, y, ok2, z, ok3, v, ok4, w, ok5, e3, e4, e5, next, waits, fair.Choose(f, hand), fair.Waiting(f), fair.Seats(f))
	return []api.Fair{joined, other, taken, untaken, dropped, last, undropped, more, equal, fewer, shut, gone}, text
}

func copies(all []api.Fair) []api.Fair {
	all = slices.Clone(all)
	for i := range all {
		all[i] = copied(all[i])
	}
	return all
}

// whole of what was handed in, its spare room too, in memory of its own.
func whole(f api.Fair) api.Fair {
	f.Lanes = slices.Clone(f.Lanes[:cap(f.Lanes)])
	for i, l := range f.Lanes {
		f.Lanes[i].Wait = slices.Clone(l.Wait[:cap(l.Wait)])
	}
	return f
}

// Rule 3: what is handed in stays as it was, its spare room, too; rule 4: and the answers are the same again.
func TestNothingIsChanged(t *testing.T) {
	for spare := range 4 {
		f, cards := handed(spare), []int{3, 1, 0, 9, -1, 5}
		hand := cards[:3]
		before, all := copied(f), whole(f)
		answers, text := ask(f, hand)
		answers = copies(answers)
		for range 3 {
			fair.Take(queues(1, queue(4, ticket(5, 5))))
			again, textAgain := ask(f, hand)
			if !slices.EqualFunc(answers, again, same) || text != textAgain {
				t.Fatalf("%v, %s; then %v, %s", answers, text, again, textAgain)
			}
		}
		if !same(f, before) || !same(whole(f), all) || !slices.Equal(cards, []int{3, 1, 0, 9, -1, 5}) {
			t.Fatalf("%v with %v was made of %v", f, cards, before)
		}
	}
}

// Rule 3: an answer is new memory, its lanes and those who wait in them, with their spare room: written over, it
// changes neither what was handed in nor another answer.
func TestAnswersAreNew(t *testing.T) {
	for spare := range 4 {
		f, hand := handed(spare), []int{3, 1, 0}
		all := whole(f)
		first, text := ask(f, hand)
		want := copies(first)
		for i := range want {
			answers, _ := ask(f, hand)
			spoilAll(answers[i].Lanes)
			answers[i] = want[i]
			if !slices.EqualFunc(answers, want, same) || !same(whole(f), all) {
				t.Fatalf("answer %d: %v, of %v; want %v, of %v", i, answers, f, want, all)
			}
		}
		if again, textAgain := ask(f, hand); !slices.EqualFunc(again, want, same) || text != textAgain {
			t.Fatalf("%v, %s; want %v, %s", again, textAgain, want, text)
		}
	}
}

// Rule 3: no two lists of one answer share memory: those who wait in one lane, written over or added to, leave those
// of the others.
func TestLanesOfOneAnswerAreApart(t *testing.T) {
	f, hand := handed(3), []int{3, 1, 0}
	first, _ := ask(f, hand)
	want := copies(first)
	for i := range want {
		for k := range want[i].Lanes {
			answers, _ := ask(f, hand)
			_ = append(answers[i].Lanes[k].Wait, ticket(1, 1), ticket(2, 2))
			spoil(answers[i].Lanes[k].Wait)
			answers[i].Lanes[k].Wait = want[i].Lanes[k].Wait
			if !same(answers[i], want[i]) {
				t.Fatalf("answer %d, lane %d: %v; want %v", i, k, answers[i], want[i])
			}
		}
	}
}

// Rule 3: what is handed in is not kept: changed, it changes no answer.
func TestNothingIsKept(t *testing.T) {
	for spare := range 4 {
		f, hand := handed(spare), []int{3, 1, 0}
		answers, _ := ask(f, hand)
		want := copies(answers)
		spoilAll(f.Lanes)
		clear(hand)
		if !slices.EqualFunc(answers, want, same) {
			t.Fatalf("%v was made of %v", answers, want)
		}
	}
}

// Rule 3: New's lanes are new each time, and lanes that come of one go apart, however far.
func TestAnswersGoApart(t *testing.T) {
	f, _ := fair.New(3, 10, 64)
	g, _ := fair.New(3, 10, 64)
	spoilAll(g.Lanes)
	one, other := f, f
	for i := range 30 {
		one, _, _ = fair.Join(one, []int{i % 3}, ticket(100+i, 1))
		other, _, _ = fair.Join(other, []int{i % 3}, ticket(200+i, 1))
	}
	for i := range 30 {
		if one.Lanes[i%3].Wait[i/3].ID != 100+i || other.Lanes[i%3].Wait[i/3].ID != 200+i {
			t.Fatalf("%v, %v", one, other)
		}
	}
	if want, _ := fair.New(3, 10, 64); !same(f, want) || fair.Waiting(f) != 0 {
		t.Errorf("%v", f)
	}
	before := copied(one)
	taken, _, _ := fair.Take(one)
	shaped, _ := fair.Shape(one, 5, 10, 64)
	fair.Join(taken, []int{0}, ticket(300, 1))
	fair.Join(shaped, []int{0, 4}, ticket(300, 1))
	if !same(one, before) {
		t.Errorf("%v; want %v", one, before)
	}
}
