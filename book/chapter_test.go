package book_test

import (
	"testing"

	"usher/api"
	"usher/book"
)

// random are numbers, the same ones each time.
type random uint64

func (r *random) next() uint64 {
	x := uint64(*r)
	x ^= x << 13
	x ^= x >> 7
	x ^= x << 17
	*r = random(x)
	return x
}

func (r *random) below(n int) int { return int((r.next() >> 11) % uint64(n)) }

func pick[T any](r *random, of ...T) T { return of[r.below(len(of))] }

const seed = random(88172645463325252)

// id is one of a few, so that some stand twice, or of any size.
func (r *random) id() int {
	return pick(r, r.below(6), r.below(6), r.below(6), r.below(50), pick(r, known[:]...), pick(r, unknown[:]...), int(r.next()))
}

// phase is mostly one of the three.
func (r *random) phase() int {
	return pick(r, 1+r.below(3), 1+r.below(3), 1+r.below(3), r.below(5), pick(r, anyPhase()...), int(r.next()))
}

func (r *random) entry() api.Entry {
	return api.Entry{ID: r.id(), Phase: r.phase(), Level: pick(r, levels[:]...)}
}

// book of any entries: none, one, some or many.
func (r *random) book() []api.Entry {
	var b []api.Entry
	for range pick(r, 0, 1, 2, r.below(8), r.below(60)) {
		b = append(b, r.entry())
	}
	return b
}

// What follows is the chapter once more, by other means: who is where in a book is gone through from its end.

// wantPlaces of an ID, the first one last.
func wantPlaces(b []api.Entry, id int) []int {
	var at []int
	for i := len(b) - 1; i >= 0; i-- {
		if b[i].ID == id {
			at = append(at, i)
		}
	}
	return at
}

// wantOne: is it one of the three?
func wantOne(phase int) bool {
	switch phase {
	case 1, 2, 3:
		return true
	}
	return false
}

func wantBegin(b []api.Entry, x api.Entry) ([]api.Entry, api.Errno) {
	switch {
	case x.ID < 0, x.ID > 999999999, !wantOne(x.Phase):
		return nil, 1
	case len(wantPlaces(b, x.ID)) > 0:
		return nil, 5
	}
	want := make([]api.Entry, len(b)+1)
	for i := range b {
		want[i] = b[i]
	}
	want[len(b)] = x
	return want, 0
}

func wantMove(b []api.Entry, id, phase int) ([]api.Entry, api.Errno) {
	at := wantPlaces(b, id)
	if len(at) == 0 {
		return nil, 6
	}
	first := at[len(at)-1]
	if !wantOne(phase) || b[first].Phase >= phase {
		return nil, 9
	}
	want := make([]api.Entry, len(b))
	for i := range b {
		want[i] = b[i]
		if i == first {
			want[i] = api.Entry{ID: id, Phase: phase, Level: b[i].Level}
		}
	}
	return want, 0
}

func wantCount(b []api.Entry) map[int]int {
	n := map[int]int{}
	for _, x := range b {
		n[x.Phase]++
	}
	return n
}

// P24.1, P24.2: many books, held against the chapter said in another way.
func TestAgainstTheChapter(t *testing.T) {
	r, found, told := seed, 0, map[api.Errno]int{}
	for range 30000 {
		b, x, id, phase := r.book(), r.entry(), r.id(), r.phase()
		if at := wantPlaces(b, id); len(at) > 0 {
			found++
			finds(t, b, id, b[at[len(at)-1]])
		} else {
			findsNone(t, b, id)
		}
		if want, e := wantBegin(b, x); e != api.OK {
			told[e]++
			beginsNot(t, b, x, e)
		} else {
			begins(t, b, x, want...)
		}
		if want, e := wantMove(b, id, phase); e != api.OK {
			told[e]++
			movesNot(t, b, id, phase, e)
		} else {
			told[e]++
			moves(t, b, id, phase, want...)
		}
		n := wantCount(b)
		counts(t, b, n[1], n[2], n[3])
		if t.Failed() {
			t.FailNow()
		}
	}
	if found < 3000 || told[api.ErrArg] < 3000 || told[api.ErrTwice] < 1000 || told[api.ErrNone] < 3000 || told[api.ErrState] < 1000 || told[api.OK] < 1000 {
		t.Errorf("found %d times, %v: too few", found, told)
	}
}

// P24.2: Waits, Runs and Over of a book are together its entries, but for those whose phase is none of the three.
func TestCountsTogether(t *testing.T) {
	r := seed
	for range 3000 {
		b, none := r.book(), 0
		for _, x := range b {
			if !wantOne(x.Phase) {
				none++
			}
		}
		waits, runs, over := book.Count(b)
		if waits < 0 || runs < 0 || over < 0 || waits+runs+over+none != len(b) {
			t.Fatalf("Count(%v) = %d, %d, %d", b, waits, runs, over)
		}
	}
}
