package book_test

import (
	"slices"
	"testing"

	"usher/api"
	"usher/book"
)

// handed is a book of n entries in a list that has spare room: the book, and the whole list.
func handed(n, spare int) (b, whole []api.Entry) {
	for i := range n + spare {
		whole = append(whole, api.Entry{ID: i, Phase: 1 + i%2, Level: levels[i]})
	}
	whole = slices.Clip(whole)
	return whole[:n], whole
}

// spoil a book, and its spare room.
func spoil(b []api.Entry) {
	whole := b[:cap(b)]
	for i := range whole {
		whole[i] = api.Entry{ID: -77, Phase: -77, Level: "spoiled"}
	}
}

// answers of all calls for one book: the books, and what is told beside them.
type answers struct {
	books  [][]api.Entry
	errs   []api.Errno
	found  []api.Entry
	ok     []bool
	counts [3]int
}

func (a *answers) add(b []api.Entry, e api.Errno) {
	a.books, a.errs = append(a.books, b), append(a.errs, e)
}

func ask(b []api.Entry) answers {
	var a answers
	a.add(book.Begin(b, entry(500, api.Waits)))
	a.add(book.Begin(b, entry(501, api.Over)))
	a.add(book.Begin(b, entry(0, api.Runs)))
	a.add(book.Begin(b, entry(-1, api.Runs)))
	for id := range len(b) + 1 {
		a.add(book.Move(b, id, api.Over))
		a.add(book.Move(b, id, api.Runs))
		a.add(book.Move(b, id, 0))
		x, ok := book.Find(b, id)
		a.found, a.ok = append(a.found, x), append(a.ok, ok)
	}
	a.counts[0], a.counts[1], a.counts[2] = book.Count(b)
	return a
}

// copied: the same answers in memory of their own.
func (a answers) copied() answers {
	a.books = slices.Clone(a.books)
	for i, b := range a.books {
		a.books[i] = slices.Clone(b)
	}
	return a
}

func (a answers) same(b answers) bool {
	return slices.EqualFunc(a.books, b.books, slices.Equal[[]api.Entry]) && slices.Equal(a.errs, b.errs) &&
		slices.Equal(a.found, b.found) && slices.Equal(a.ok, b.ok) && a.counts == b.counts
}

// Rule 3: what is handed in stays as it was, its spare room, too; rule 4: and the answers are the same again.
func TestNothingIsChanged(t *testing.T) {
	for n := range 6 {
		for spare := range 4 {
			b, whole := handed(n, spare)
			before := slices.Clone(whole)
			first := ask(b).copied()
			for range 3 {
				book.Begin(of(entry(5, api.Waits)), entry(6, api.Waits))
				if again := ask(b); !first.same(again) {
					t.Fatalf("%v; then %v", first, again)
				}
			}
			if len(b) != n || !slices.Equal(whole, before) {
				t.Fatalf("%v was made of %v", whole, before)
			}
		}
	}
}

// Rule 3: an answer is new memory: written over, with its spare room, it changes neither the book that was handed in
// nor another answer; and what is put behind it lands in no other list.
func TestAnswersAreNew(t *testing.T) {
	for n := range 6 {
		for spare := range 4 {
			b, whole := handed(n, spare)
			before, want := slices.Clone(whole), ask(b).copied()
			for i := range want.books {
				a := ask(b)
				spoil(a.books[i])
				a.books[i] = want.books[i]
				if !a.same(want) || !slices.Equal(whole, before) {
					t.Fatalf("%d of %d: %v, %v; want %v, %v", i, n, a, whole, want, before)
				}
				a = ask(b)
				_ = append(a.books[i], entry(1, 1), entry(2, 2))
				if !a.same(want) || !slices.Equal(whole, before) {
					t.Fatalf("%d of %d: %v, %v; want %v, %v", i, n, a, whole, want, before)
				}
			}
		}
	}
}

// Rule 3: what is handed in is not kept: written over, with its spare room, it changes no answer.
func TestNothingIsKept(t *testing.T) {
	for n := range 6 {
		for spare := range 4 {
			b, whole := handed(n, spare)
			a := ask(b)
			want := a.copied()
			spoil(whole)
			if !a.same(want) {
				t.Fatalf("%v was made of %v", a, want)
			}
		}
	}
}

// Rule 3: books that come of one book go apart, however far.
func TestBooksGoApart(t *testing.T) {
	b, _ := handed(3, 5)
	before := slices.Clone(b)
	one, other := b, b
	for i := range 20 {
		one, _ = book.Begin(one, entry(100+i, api.Waits))
		other, _ = book.Begin(other, entry(200+i, api.Waits))
	}
	moved, _ := book.Move(one, 105, api.Over)
	book.Begin(moved, entry(300, api.Waits))
	if len(one) != 23 || len(other) != 23 || len(moved) != 23 || !slices.Equal(b, before) || !slices.Equal(one[:3], before) || !slices.Equal(other[:3], before) {
		t.Fatalf("%v, %v, %v", b, one, other)
	}
	for i := range 20 {
		if one[3+i] != entry(100+i, api.Waits) || other[3+i] != entry(200+i, api.Waits) {
			t.Fatalf("%v, %v", one, other)
		}
	}
	finds(t, moved, 105, entry(105, api.Over))
}
