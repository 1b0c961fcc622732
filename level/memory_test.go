package level_test

import (
	"fmt"
	"math"
	"slices"
	"testing"

	"usher/api"
	"usher/level"
)

// spoil a list, and its spare room.
func spoil(list []api.Ticket) {
	whole := list[:cap(list)]
	for i := range whole {
		whole[i] = api.Ticket{ID: -77, Width: -77, Seats: -77, Since: -77, Until: -77}
	}
}

// spoilAll that a state holds: those who run, those who wait, and the lanes themselves, with their spare room.
func spoilAll(s api.State) {
	spoil(s.Running)
	whole := s.Fair.Lanes[:cap(s.Fair.Lanes)]
	for i := range whole {
		spoil(whole[i].Wait)
		whole[i] = api.Lane{Start: 77, Wait: []api.Ticket{ticket(-78, -78)}}
	}
}

// list of n, with spare room.
func list(id, n, spare int) []api.Ticket {
	var all []api.Ticket
	for i := range n + spare {
		all = append(all, api.Ticket{ID: id + i, Width: 1 + i, Seats: 1 + i, Since: 3, Until: 7 + i})
	}
	return slices.Clip(all)[:n]
}

// handed is a state with spare room all over; its last lane is empty.
func handed(kind, spare int) api.State {
	s := at(kind, 20)
	for i, n := range []int{2, 0, 3, 1, 0} {
		s.Fair.Lanes = append(s.Fair.Lanes, api.Lane{Start: uint64(50 + i), Wait: list(10*i, n, spare)})
	}
	for range spare {
		s.Fair.Lanes = append(s.Fair.Lanes, queue(1, ticket(-1, 1)))
	}
	s.Fair.Lanes = slices.Clip(s.Fair.Lanes)[:5]
	s.Fair.Open, s.Fair.Length = 4, 5
	s.Running = list(90, 3, spare)
	return s
}

// nobody is what was handed in, with nobody who waits or runs, in the same memory.
func nobody(s api.State) api.State {
	s.Fair.Lanes = slices.Clone(s.Fair.Lanes)
	for i := range s.Fair.Lanes {
		s.Fair.Lanes[i].Wait = s.Fair.Lanes[i].Wait[:0]
	}
	s.Running = s.Running[:0]
	return s
}

// answer of a call: a state, and who is told beside it.
type answer struct {
	s   api.State
	who []api.Ticket
}

func equal(a, b answer) bool { return same(a.s, b.s) && slices.Equal(a.who, b.who) }

func (a answer) copied() answer { return answer{copied(a.s), slices.Clone(a.who)} }

// ask for all answers that hold lists; with those beside them told as a text.
func ask(s api.State, hand []int) ([]answer, string) {
	none := nobody(s)
	exempt := s
	exempt.Level.Kind = api.Exempt
	joined, e := level.Arrive(s, ticket(500, 2), hand)
	first, e2 := level.Arrive(none, ticket(500, 2), hand)
	ran, e3 := level.Arrive(exempt, ticket(500, 2), hand)
	dispatched, taken := level.Dispatch(s)
	held, takenNot := level.Dispatch(with(s, running(5, 16), running(6, 16)))
	// Where nothing runs those who are taken are all who run then.
	alone, takenAlone := level.Dispatch(with(s, s.Running[:0]...))
	idle, takenNone := level.Dispatch(none)
	gone, x, e4 := level.Done(s, 91)
	goneFirst, y, e5 := level.Done(s, 90)
	dropped, z, e6 := level.Drop(s, 21)
	last, v, e7 := level.Drop(s, 30)
	less, late := level.Late(s, 8)
	nobodyLeft, allLate := level.Late(s, 99)
	undone, lateNone := level.Late(s, math.MinInt)
	l := s.Level
	l.Queues = 9
	more, shut, other := level.Turn(s, l, false), level.Turn(s, l, true), level.Turn(none, named(api.Reject), false)
	l.Queues = 1
	fewer := level.Turn(s, l, false)
	seats, ok := level.Fits(s, 3)
	text := fmt.Sprint(e, e2, e3, x, e4, y, e5, z, e6, v, e7, seats, ok, level.Runs(s), level.Wants(s), level.Empty(s), level.Empty(none))
	return []answer{
		{joined, nil}, {first, nil}, {ran, nil}, {dispatched, taken}, {held, takenNot}, {alone, takenAlone}, {idle, takenNone}, {gone, nil},
		{goneFirst, nil}, {dropped, nil}, {last, nil}, {less, late}, {nobodyLeft, allLate}, {undone, lateNone}, {more, nil}, {shut, nil}, {other, nil}, {fewer, nil},
	}, text
}

func copies(all []answer) []answer {
	all = slices.Clone(all)
	for i := range all {
		all[i] = all[i].copied()
	}
	return all
}

// whole of what was handed in, its spare room too, in memory of its own.
func whole(s api.State) api.State {
	s.Running = slices.Clone(s.Running[:cap(s.Running)])
	s.Fair.Lanes = slices.Clone(s.Fair.Lanes[:cap(s.Fair.Lanes)])
	for i, l := range s.Fair.Lanes {
		s.Fair.Lanes[i].Wait = slices.Clone(l.Wait[:cap(l.Wait)])
	}
	return s
}

// memory: the kinds and the spare room with which the tests of rule 3 are made.
func memory(t *testing.T, test func(t *testing.T, kind, spare int)) {
	t.Helper()
	for _, kind := range []int{api.Exempt, api.Reject, api.Queue} {
		for spare := range 4 {
			test(t, kind, spare)
		}
	}
}

// Rule 3: what is handed in stays as it was, its spare room, too; rule 4: and the answers are the same again.
func TestNothingIsChanged(t *testing.T) {
	memory(t, func(t *testing.T, kind, spare int) {
		s, cards := handed(kind, spare), []int{3, 1, 0, 9, -1, 5}
		hand := cards[:3]
		before, all := copied(s), whole(s)
		answers, text := ask(s, hand)
		answers = copies(answers)
		for range 3 {
			level.Dispatch(at(api.Queue, 5, queue(4, ticket(5, 5))))
			again, textAgain := ask(s, hand)
			if !slices.EqualFunc(answers, again, equal) || text != textAgain {
				t.Fatalf("%v, %s; then %v, %s", answers, text, again, textAgain)
			}
		}
		if !same(s, before) || !same(whole(s), all) || !slices.Equal(cards, []int{3, 1, 0, 9, -1, 5}) {
			t.Fatalf("%v with %v was made of %v", s, cards, before)
		}
	})
}

// Rule 3: an answer is new memory, its lanes, those who wait in them and those who run, with their spare room: written
// over, it changes neither what was handed in nor another answer.
func TestAnswersAreNew(t *testing.T) {
	memory(t, func(t *testing.T, kind, spare int) {
		s, hand := handed(kind, spare), []int{3, 1, 0}
		all := whole(s)
		first, text := ask(s, hand)
		want := copies(first)
		for i := range want {
			answers, _ := ask(s, hand)
			spoilAll(answers[i].s)
			spoil(answers[i].who)
			answers[i] = want[i]
			if !slices.EqualFunc(answers, want, equal) || !same(whole(s), all) {
				t.Fatalf("answer %d: %v, of %v; want %v, of %v", i, answers, s, want, all)
			}
		}
		if again, textAgain := ask(s, hand); !slices.EqualFunc(again, want, equal) || text != textAgain {
			t.Fatalf("%v, %s; want %v, %s", again, textAgain, want, text)
		}
	})
}

// lists of an answer: who is told, those who run, and those who wait, lane by lane.
func lists(a *answer) []*[]api.Ticket {
	all := []*[]api.Ticket{&a.who, &a.s.Running}
	for i := range a.s.Fair.Lanes {
		all = append(all, &a.s.Fair.Lanes[i].Wait)
	}
	return all
}

// Rule 3: no two lists of one answer share memory: one, written over or added to, leaves the others.
func TestListsOfOneAnswerAreApart(t *testing.T) {
	memory(t, func(t *testing.T, kind, spare int) {
		s, hand := handed(kind, spare), []int{3, 1, 0}
		first, _ := ask(s, hand)
		want := copies(first)
		for i := range want {
			for k, right := range lists(&want[i]) {
				answers, _ := ask(s, hand)
				wrong := lists(&answers[i])[k]
				_ = append(*wrong, ticket(1, 1), ticket(2, 2))
				spoil(*wrong)
				*wrong = *right
				if !equal(answers[i], want[i]) {
					t.Fatalf("answer %d, list %d: %v; want %v", i, k, answers[i], want[i])
				}
			}
		}
	})
}

// Rule 3: what is handed in is not kept: changed, it changes no answer.
func TestNothingIsKept(t *testing.T) {
	memory(t, func(t *testing.T, kind, spare int) {
		s, hand := handed(kind, spare), []int{3, 1, 0}
		answers, _ := ask(s, hand)
		want := copies(answers)
		spoilAll(s)
		clear(hand)
		if !slices.EqualFunc(answers, want, equal) {
			t.Fatalf("%v was made of %v", answers, want)
		}
	})
}

// Rule 3: Open's lanes are new each time, and states that come of one go apart, however far.
func TestAnswersGoApart(t *testing.T) {
	l := api.Level{Kind: api.Queue, Queues: 3, Guess: 10, Length: 64}
	s := level.Open(l)
	spoilAll(level.Open(l))
	s.Limit = 15
	one, other := s, s
	for i := range 30 {
		one, _ = level.Arrive(one, ticket(100+i, 1), []int{i % 3})
		other, _ = level.Arrive(other, ticket(200+i, 1), []int{i % 3})
	}
	oneRuns, taken := level.Dispatch(one)
	otherRuns, takenOther := level.Dispatch(other)
	for i := range 15 {
		if taken[i].ID != 100+i || takenOther[i].ID != 200+i || oneRuns.Running[i] != taken[i] || otherRuns.Running[i] != takenOther[i] {
			t.Fatalf("%v, %v", oneRuns, otherRuns)
		}
	}
	before := copied(oneRuns)
	done, _, _ := level.Done(oneRuns, 107)
	again, _ := level.Dispatch(done)
	level.Dispatch(level.Turn(again, api.Level{Kind: api.Exempt}, false))
	level.Late(oneRuns, math.MaxInt)
	level.Drop(oneRuns, 120)
	if !same(oneRuns, before) || len(done.Running) != 14 || len(again.Running) != 15 {
		t.Errorf("%v; want %v", oneRuns, before)
	}
	want := level.Open(l)
	want.Limit = 15
	if !same(s, want) || !level.Empty(s) {
		t.Errorf("%v", s)
	}
}
