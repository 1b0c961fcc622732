package fair_test

import (
	"math"
	"math/big"
	"slices"
	"testing"

	"usher/api"
	"usher/deal"
	"usher/fair"
)

// random are numbers, the same ones each time.
type random uint64

func (r *random) next() uint64 {
	x := uint64(*r)
	x ^= x << 13
	x ^= x >> 7
	x ^= x << 17
	*r = random(x)
	return x
}

func (r *random) below(n int) int { return int((r.next() >> 11) % uint64(n)) }

func pick[T any](r *random, of ...T) T { return of[r.below(len(of))] }

const seed = random(88172645463325252)

// extremes are numbers that are far from all that may be.
var extremes = [...]int{math.MinInt, math.MinInt + 1, -1 << 32, -1, 0, 1, 1 << 32, 1<<32 + 1, math.MaxInt - 1, math.MaxInt}

// about are the numbers about 1 and most, and the extremes.
func about(most int) []int {
	return append([]int{-most, -2, 2, 3, most - 1, most, most + 1, most + 2, 2 * most, most + 1<<32}, extremes[:]...)
}

func ticket(id, width int) api.Ticket {
	return api.Ticket{ID: id, Width: width, Seats: id + 100, Since: id + 200, Until: id + 300}
}

func queue(start uint64, wait ...api.Ticket) api.Lane { return api.Lane{Start: start, Wait: wait} }

// queues with R 100, a guess of 10 and a length of 3, of which open take who comes.
func queues(open int, lanes ...api.Lane) api.Fair {
	return api.Fair{R: 100, Guess: 10, Length: 3, Open: open, Lanes: lanes}
}

func same(a, b api.Fair) bool {
	return a.R == b.R && a.Guess == b.Guess && a.Length == b.Length && a.Open == b.Open &&
		slices.EqualFunc(a.Lanes, b.Lanes, func(l, m api.Lane) bool { return l.Start == m.Start && slices.Equal(l.Wait, m.Wait) })
}

func zero(f api.Fair) bool { return same(f, api.Fair{}) }

func copied(f api.Fair) api.Fair {
	f.Lanes = slices.Clone(f.Lanes)
	for i := range f.Lanes {
		f.Lanes[i].Wait = slices.Clone(f.Lanes[i].Wait)
	}
	return f
}

func chooses(t *testing.T, f api.Fair, want int, hand ...int) {
	t.Helper()
	if got := fair.Choose(f, hand); got != want {
		t.Errorf("Choose(%v, %v) = %d; want %d", f, hand, got, want)
	}
}

func joins(t *testing.T, f api.Fair, hand []int, x api.Ticket, want api.Fair, number int) {
	t.Helper()
	if got, i, e := fair.Join(f, hand, x); e != api.OK || i != number || !same(got, want) {
		t.Errorf("Join(%v, %v, %v) = %v, %d, %v; want %v, %d", f, hand, x, got, i, e, want, number)
	}
}

// joinsNot: the error, nothing beside it, and what was handed in as it is.
func joinsNot(t *testing.T, f api.Fair, hand []int, x api.Ticket, want api.Errno) {
	t.Helper()
	before, cards := copied(f), slices.Clone(hand)
	if got, i, e := fair.Join(f, hand, x); e != want || i != 0 || !zero(got) {
		t.Errorf("Join(%v, %v, %v) = %v, %d, %v; want %v", f, hand, x, got, i, e, want)
	}
	if !same(f, before) || !slices.Equal(hand, cards) {
		t.Errorf("Join(%v, %v, %v) left %v, %v", before, cards, x, f, hand)
	}
}

func nexts(t *testing.T, f api.Fair, want int) {
	t.Helper()
	if got, ok := fair.Next(f); !ok || got != want {
		t.Errorf("Next(%v) = %d, %t; want %d", f, got, ok, want)
	}
}

func takes(t *testing.T, f api.Fair, want api.Fair, who api.Ticket) {
	t.Helper()
	if got, x, ok := fair.Take(f); !ok || x != who || !same(got, want) {
		t.Errorf("Take(%v) = %v, %v, %t; want %v, %v", f, got, x, ok, want, who)
	}
}

// takesNobody: false, the lanes as they are, not trimmed either, and nobody.
func takesNobody(t *testing.T, f api.Fair) {
	t.Helper()
	if got, ok := fair.Next(f); ok || got != 0 {
		t.Errorf("Next(%v) = %d, %t", f, got, ok)
	}
	if got, x, ok := fair.Take(f); ok || x != (api.Ticket{}) || !same(got, f) {
		t.Errorf("Take(%v) = %v, %v, %t", f, got, x, ok)
	}
}

func drops(t *testing.T, f api.Fair, id int, want api.Fair, who api.Ticket) {
	t.Helper()
	if got, x, ok := fair.Drop(f, id); !ok || x != who || !same(got, want) {
		t.Errorf("Drop(%v, %d) = %v, %v, %t; want %v, %v", f, id, got, x, ok, want, who)
	}
}

// dropsNobody: false, the lanes as they are, not trimmed either, and nobody.
func dropsNobody(t *testing.T, f api.Fair, id int) {
	t.Helper()
	if got, x, ok := fair.Drop(f, id); ok || x != (api.Ticket{}) || !same(got, f) {
		t.Errorf("Drop(%v, %d) = %v, %v, %t", f, id, got, x, ok)
	}
}

func shapes(t *testing.T, f api.Fair, open, guess, length int, want api.Fair) {
	t.Helper()
	if got, e := fair.Shape(f, open, guess, length); e != api.OK || !same(got, want) {
		t.Errorf("Shape(%v, %d, %d, %d) = %v, %v; want %v", f, open, guess, length, got, e, want)
	}
}

// shapesNot: ErrArg, nothing beside it, and what was handed in as it is.
func shapesNot(t *testing.T, f api.Fair, open, guess, length int) {
	t.Helper()
	before := copied(f)
	if got, e := fair.Shape(f, open, guess, length); e != api.ErrArg || !zero(got) {
		t.Errorf("Shape(%v, %d, %d, %d) = %v, %v", f, open, guess, length, got, e)
	}
	if !same(f, before) {
		t.Errorf("Shape(%v, %d, %d, %d) left %v", before, open, guess, length, f)
	}
}

func shuts(t *testing.T, f, want api.Fair) {
	t.Helper()
	if got := fair.Shut(f); !same(got, want) {
		t.Errorf("Shut(%v) = %v; want %v", f, got, want)
	}
}

func counts(t *testing.T, f api.Fair, waiting, seats int) {
	t.Helper()
	if n, m := fair.Waiting(f), fair.Seats(f); n != waiting || m != seats {
		t.Errorf("of %v: Waiting %d, Seats %d; want %d, %d", f, n, m, waiting, seats)
	}
}

// P22.1 to P22.3: the chapter's examples.
func TestExamples(t *testing.T) {
	f, e := fair.New(2, 10, 5)
	if e != api.OK {
		t.Fatal(e)
	}
	a, b, c := ticket(1, 1), ticket(2, 1), ticket(3, 3)
	for _, x := range []struct {
		who  api.Ticket
		lane int
	}{{a, 0}, {b, 0}, {c, 1}} {
		g, i, e := fair.Join(f, []int{x.lane}, x.who)
		if e != api.OK || i != x.lane {
			t.Fatalf("Join(%v, %d): %d, %v", f, x.lane, i, e)
		}
		f = g
	}
	chooses(t, f, 0, 1, 0)
	for i, want := range []api.Ticket{a, b, c} {
		g, x, ok := fair.Take(f)
		if !ok || x != want || g.R != uint64(10+10*i) {
			t.Errorf("Take(%v) = %v, %v, %t; want %v", f, g, x, ok, want)
		}
		f = g
	}
	takesNobody(t, f)
}

// P22.1: each number below 1, from 1 to the most, and above it, each beside each.
func TestNew(t *testing.T) {
	for _, open := range about(64) {
		for _, guess := range about(1000) {
			for _, length := range about(64) {
				f, e := fair.New(open, guess, length)
				if open < 1 || open > 64 || guess < 1 || guess > 1000 || length < 1 || length > 64 {
					if e != api.ErrArg || !zero(f) {
						t.Errorf("New(%d, %d, %d) = %v, %v", open, guess, length, f, e)
					}
					continue
				}
				want := api.Fair{Guess: guess, Length: length, Open: open, Lanes: make([]api.Lane, open)}
				if e != api.OK || !same(f, want) {
					t.Errorf("New(%d, %d, %d) = %v, %v", open, guess, length, f, e)
				}
				takesNobody(t, f)
				counts(t, f, 0, 0)
			}
		}
	}
	for open := 1; open <= 64; open++ {
		if f, e := fair.New(open, 1, 1); e != api.OK || len(f.Lanes) != open {
			t.Errorf("New(%d, 1, 1) = %v, %v", open, f, e)
		}
	}
}

// P22.2: of the hand the lane with the fewest seats, not with the fewest who wait; of several the first in hand.
func TestChoose(t *testing.T) {
	// Seats 5, 3, 3, 0, 0, 2.
	f := queues(6, queue(0, ticket(1, 5)), queue(9, ticket(2, 1), ticket(3, 2)), queue(5, ticket(4, 3)), queue(8), queue(3), queue(7, ticket(5, 0), ticket(6, -9)))
	for _, c := range []struct {
		want int
		hand []int
	}{
		{0, []int{0}}, {1, []int{1}}, {5, []int{5}}, {1, []int{0, 1}}, {1, []int{1, 0}},
		{1, []int{1, 2}}, {2, []int{2, 1}}, {2, []int{0, 2, 1}}, {1, []int{0, 1, 2, 0}},
		{3, []int{3, 4}}, {4, []int{4, 3}}, {4, []int{0, 1, 4, 2, 3, 5}}, {3, []int{5, 3, 0}},
		{5, []int{0, 1, 2, 5}}, {5, []int{5, 0, 1, 2}},
		// A number twice.
		{1, []int{1, 1}}, {2, []int{2, 1, 2, 1}}, {1, []int{0, 0, 1, 0}}, {4, []int{4, 4, 3, 3}},
	} {
		chooses(t, f, c.want, c.hand...)
	}
	// As many seats by one wide one and by many narrow ones; a width counts as layer 21 has it.
	f = queues(2, queue(0, ticket(1, 99)), queue(0, slices.Repeat([]api.Ticket{ticket(2, 1)}, 16)...))
	chooses(t, f, 0, 0, 1)
	chooses(t, f, 1, 1, 0)
	f.Lanes[1].Wait = append(f.Lanes[1].Wait, ticket(3, math.MinInt))
	chooses(t, f, 0, 1, 0)
}

// P22.2: numbers in hand that are those of no lane, or of one that is shut, are passed over.
func TestChooseOfAnyNumbers(t *testing.T) {
	wide := queue(0, ticket(1, 16))
	for lanes := range 5 {
		for _, open := range []int{math.MinInt, -1, 0, 1, 2, 3, 4, 5, 99, math.MaxInt} {
			f := queues(open, slices.Repeat([]api.Lane{queue(0)}, lanes)...)
			chooses(t, f, -1)
			chooses(t, f, -1, []int{}...)
			for _, i := range append([]int{-2, 2, 3, 4, 5, 6, 98, 99, 100}, extremes[:]...) {
				if i >= 0 && i < open && i < lanes {
					chooses(t, f, i, i)
					chooses(t, f, i, -1, i, 99)
				} else {
					chooses(t, f, -1, i)
					chooses(t, f, -1, i, i, -1)
					joinsNot(t, f, []int{i}, ticket(1, 1), api.ErrNone)
				}
			}
			if open > 0 && lanes > 0 {
				// A lane that is open is taken, however much waits there, ahead of one that is not.
				f.Lanes[0] = wide
				chooses(t, f, 0, open, lanes, 0)
				chooses(t, f, 0, 0, open, lanes, math.MaxInt, math.MinInt)
			}
		}
	}
}

// P22.2: who joins stands behind those of the lane that was chosen; all else stays.
func TestJoin(t *testing.T) {
	x, y, z, w := ticket(1, 5), ticket(2, 1), ticket(3, 2), ticket(4, 16)
	f := queues(3, queue(60, x), queue(70, y, z), queue(80), queue(7))
	// A lane in which nobody waited goes on from R, or from its own Start where that is greater.
	joins(t, f, []int{2}, w, queues(3, queue(60, x), queue(70, y, z), queue(100, w), queue(7)), 2)
	joins(t, f, []int{1, 0, 2}, w, queues(3, queue(60, x), queue(70, y, z), queue(100, w), queue(7)), 2)
	f.R = 75
	want := queues(3, queue(60, x), queue(70, y, z), queue(80, w), queue(7))
	want.R = 75
	joins(t, f, []int{2, 1, 0}, w, want, 2)
	f.R = 100
	joins(t, f, []int{0}, w, queues(3, queue(60, x, w), queue(70, y, z), queue(80), queue(7)), 0)
	joins(t, f, []int{0, 1}, w, queues(3, queue(60, x), queue(70, y, z, w), queue(80), queue(7)), 1)
	joins(t, f, []int{-1, 3, 4, 0, 1, 1}, x, queues(3, queue(60, x), queue(70, y, z, x), queue(80), queue(7)), 1)
	// Who joins is any ticket at all, the same one as well.
	joins(t, f, []int{2}, api.Ticket{}, queues(3, queue(60, x), queue(70, y, z), queue(100, api.Ticket{}), queue(7)), 2)
	for _, n := range extremes {
		w := api.Ticket{ID: n, Width: -n, Seats: n, Since: n, Until: n}
		joins(t, f, []int{0}, w, queues(3, queue(60, x, w), queue(70, y, z), queue(80), queue(7)), 0)
	}
	// Join does not trim.
	f = queues(1, queue(0), queue(0), queue(0))
	joins(t, f, []int{0}, x, queues(1, queue(100, x), queue(0), queue(0)), 0)
}

// P22.2: a lane in which as many as Length wait, one fewer, and more; the number who wait counts, not their seats.
func TestJoinWhereThereIsNoRoom(t *testing.T) {
	x := ticket(9, 1)
	for n := range 6 {
		wait := slices.Repeat([]api.Ticket{ticket(1, 16)}, n)
		for _, length := range append([]int{2, 3, 4, 5, 6, 64}, extremes[:]...) {
			f := queues(2, queue(5, wait...), queue(7, slices.Repeat([]api.Ticket{ticket(2, 16)}, 6)...))
			f.Length = length
			if n >= length {
				joinsNot(t, f, []int{0}, x, api.ErrFull)
				joinsNot(t, f, []int{1, 0}, x, api.ErrFull)
			} else {
				want := copied(f)
				want.Lanes[0].Wait = append(want.Lanes[0].Wait, x)
				if n == 0 {
					want.Lanes[0].Start = 100
				}
				joins(t, f, []int{0}, x, want, 0)
				joins(t, f, []int{1, 0}, x, want, 0)
			}
			joinsNot(t, f, nil, x, api.ErrNone)
			joinsNot(t, f, []int{2, -1}, x, api.ErrNone)
		}
	}
	// The lane with the fewest seats is full, and another one of the hand, which has room, is not asked.
	narrow := slices.Repeat([]api.Ticket{ticket(1, 1)}, 3)
	f := queues(2, queue(5, narrow...), queue(7, ticket(2, 16)))
	joinsNot(t, f, []int{0, 1}, x, api.ErrFull)
	joinsNot(t, f, []int{1, 0}, x, api.ErrFull)
	joins(t, f, []int{1}, x, queues(2, queue(5, narrow...), queue(7, ticket(2, 16), x)), 1)
}

// P22.3: the least finish, not the least start; of several the first lane; empty lanes are passed over.
func TestNext(t *testing.T) {
	one, two, five := ticket(1, 1), ticket(2, 2), ticket(3, 5)
	nexts(t, queues(3, queue(50, five), queue(70, two), queue(75, one)), 2)
	nexts(t, queues(3, queue(50, five), queue(70, two), queue(80, one)), 1)
	nexts(t, queues(3, queue(30, five), queue(70, two), queue(80, one)), 0)
	// The same finish, 90.
	nexts(t, queues(3, queue(40, five), queue(70, two), queue(80, one)), 0)
	nexts(t, queues(3, queue(41, five), queue(70, two), queue(80, one)), 1)
	nexts(t, queues(3, queue(41, five), queue(80, one), queue(70, two)), 1)
	nexts(t, queues(3, queue(80, one), queue(80, one), queue(80, one)), 0)
	// Only the first of a lane counts.
	nexts(t, queues(2, queue(50, five, one), queue(50, two, five)), 1)
	nexts(t, queues(4, queue(0), queue(0), queue(90, five, one), queue(0)), 2)
	nexts(t, queues(4, queue(0), queue(90, five), queue(0), queue(89, five)), 3)
	// A lane that is shut has its turn as well, whatever Open is.
	for _, open := range append([]int{2, 3, 4}, extremes[:]...) {
		nexts(t, queues(open, queue(90, one), queue(0), queue(80, one)), 2)
	}
	// At the cap all finishes are the same; above it they count as the cap.
	nexts(t, queues(2, queue(math.MaxUint64, five), queue(api.Cap, one)), 0)
	nexts(t, queues(2, queue(math.MaxUint64, five), queue(api.Cap-10, one)), 0)
	nexts(t, queues(2, queue(math.MaxUint64, five), queue(api.Cap-11, one)), 1)
}

// P22.3: the guess counts as layer 21 has it.
func TestNextByGuess(t *testing.T) {
	// At a guess of 1 both have the finish 105; from 2 on the second one is ahead.
	f := queues(2, queue(100, ticket(1, 5)), queue(104, ticket(2, 1)))
	for _, c := range []struct {
		guess, want int
		r           uint64
	}{
		{math.MinInt, 0, 105}, {-1, 0, 105}, {0, 0, 105}, {1, 0, 105}, {2, 1, 106}, {3, 1, 107}, {999, 1, 1103}, {1000, 1, 1104}, {1001, 1, 1104}, {math.MaxInt, 1, 1104},
	} {
		f.Guess = c.guess
		nexts(t, f, c.want)
		want := copied(f)
		want.R, want.Lanes[c.want] = c.r, queue(c.r)
		takes(t, f, want, f.Lanes[c.want].Wait[0])
	}
}

// P22.3: the first of the next lane goes; its lane's Start is its finish, and so is R, if that is not greater.
func TestTake(t *testing.T) {
	x, y, z := ticket(1, 3), ticket(2, 2), ticket(3, 1)
	f := queues(2, queue(90, x, y), queue(95, z, x))
	want := queues(2, queue(90, x, y), queue(105, x))
	want.R = 105
	takes(t, f, want, z)
	for _, r := range []uint64{0, 1, 104, 105, 106, 107, api.Cap, math.MaxUint64} {
		f.R, want.R = r, max(r, 105)
		takes(t, f, want, z)
	}
	// The same finish: the first lane.
	f = queues(2, queue(90, y, z), queue(100, z, x))
	want = queues(2, queue(110, z), queue(100, z, x))
	want.R = 110
	takes(t, f, want, y)
	// About the cap.
	f = queues(1, queue(api.Cap-20, y, x), queue(api.Cap-5, x))
	want = queues(1, queue(api.Cap, x), queue(api.Cap-5, x))
	want.R = api.Cap
	takes(t, f, want, y)
	takes(t, want, api.Fair{R: api.Cap, Guess: 10, Length: 3, Open: 1, Lanes: []api.Lane{queue(api.Cap), queue(api.Cap-5, x)}}, x)
}

// P22.3: nobody waits at all: the lanes stay, those beyond Open as well.
func TestTakeNobody(t *testing.T) {
	takesNobody(t, api.Fair{})
	for lanes := range 4 {
		for _, open := range append([]int{2, 3, 4}, extremes[:]...) {
			takesNobody(t, queues(open, slices.Repeat([]api.Lane{queue(7)}, lanes)...))
			takesNobody(t, queues(open, slices.Repeat([]api.Lane{{Start: 7, Wait: []api.Ticket{ticket(1, 1)}[:0]}}, lanes)...))
		}
	}
}

// P22.3: an ID that one has, that two lanes have, that two of one lane have, and that nobody has.
func TestDrop(t *testing.T) {
	x, y, z := ticket(1, 3), ticket(2, 2), ticket(3, 1)
	first, second, third := ticket(9, 5), ticket(9, 6), ticket(9, 7)
	f := queues(3, queue(60, x, y), queue(70), queue(80, z))
	drops(t, f, 1, queues(3, queue(60, y), queue(70), queue(80, z)), x)
	drops(t, f, 2, queues(3, queue(60, x), queue(70), queue(80, z)), y)
	drops(t, f, 3, queues(3, queue(60, x, y), queue(70), queue(80)), z)
	for _, id := range []int{-3, 4, 60, 103, 203, 303, 1<<32 + 1, math.MinInt, math.MaxInt, 0, -1} {
		dropsNobody(t, f, id)
		dropsNobody(t, queues(0, queue(3), queue(4)), id)
		dropsNobody(t, queues(0), id)
		dropsNobody(t, api.Fair{}, id)
	}
	// Not the lane whose turn it is, nor the one with the fewest seats: the first one.
	f = queues(3, queue(90, x, first), queue(10, second, third), queue(20, third))
	drops(t, f, 9, queues(3, queue(90, x), queue(10, second, third), queue(20, third)), first)
	f.Lanes[0] = queue(90, x)
	drops(t, f, 9, queues(3, queue(90, x), queue(10, third), queue(20, third)), second)
	f.Lanes[1] = queue(10, third, second)
	drops(t, f, 9, queues(3, queue(90, x), queue(10, second), queue(20, third)), third)
	// A lane that is shut is gone through as well, whatever Open is.
	for _, open := range append([]int{2, 3}, extremes[:]...) {
		drops(t, queues(open, queue(60, x), queue(70, y, z)), 2, queues(open, queue(60, x), queue(70, z)), y)
	}
	drops(t, queues(1, queue(7, api.Ticket{})), 0, queues(1, queue(7)), api.Ticket{})
}

// P22.3, P22.4: behind Take and Drop the last lanes go that are beyond Open and in which nobody waits, and no others.
func TestTrimmed(t *testing.T) {
	x, y := ticket(1, 1), ticket(2, 1)
	for _, c := range []struct {
		open         int
		lanes, after []api.Lane // x is taken, or dropped
	}{
		{0, []api.Lane{queue(100, x)}, nil},
		{1, []api.Lane{queue(100, x)}, []api.Lane{queue(100)}},
		{2, []api.Lane{queue(100, x)}, []api.Lane{queue(100)}},
		{1, []api.Lane{queue(9), queue(100, x)}, []api.Lane{queue(9)}},
		{2, []api.Lane{queue(9), queue(100, x)}, []api.Lane{queue(9), queue(100)}},
		{0, []api.Lane{queue(9), queue(100, x)}, nil},
		// The last one with somebody: an empty one ahead of it stays.
		{0, []api.Lane{queue(100, x), queue(100, y)}, []api.Lane{queue(100), queue(100, y)}},
		{1, []api.Lane{queue(100, x), queue(9), queue(100, y)}, []api.Lane{queue(100), queue(9), queue(100, y)}},
		{1, []api.Lane{queue(9), queue(100, x), queue(8), queue(100, y), queue(7)}, []api.Lane{queue(9), queue(100), queue(8), queue(100, y)}},
		// The last ones with nobody, though one ahead of them had somebody.
		{1, []api.Lane{queue(100, x), queue(9), queue(8)}, []api.Lane{queue(100)}},
		{2, []api.Lane{queue(100, x), queue(9), queue(8)}, []api.Lane{queue(100), queue(9)}},
		{3, []api.Lane{queue(100, x), queue(9), queue(8)}, []api.Lane{queue(100), queue(9), queue(8)}},
		{1, []api.Lane{queue(100, x, y), queue(9), queue(8)}, []api.Lane{queue(100, y)}},
		{0, []api.Lane{queue(100, x, y), queue(9), queue(8)}, []api.Lane{queue(100, y)}},
		{-1, []api.Lane{queue(9), queue(100, x), queue(8)}, nil},
		{math.MinInt, []api.Lane{queue(9), queue(100, x), queue(8)}, nil},
		{math.MaxInt, []api.Lane{queue(9), queue(100, x)}, []api.Lane{queue(9), queue(100)}},
	} {
		f, dropped := queues(c.open, c.lanes...), queues(c.open, c.after...)
		drops(t, f, 1, dropped, x)
		taken := copied(dropped)
		taken.R = 110
		for i, l := range taken.Lanes {
			if len(c.lanes[i].Wait) > len(l.Wait) {
				taken.Lanes[i].Start = 110
			}
		}
		takes(t, f, taken, x)
	}
}

// P22.4: to more lanes, to as many and to fewer.
func TestShape(t *testing.T) {
	x, y := ticket(1, 1), ticket(2, 2)
	shaped := func(open int, lanes ...api.Lane) api.Fair {
		return api.Fair{R: 100, Guess: 20, Length: 6, Open: open, Lanes: lanes}
	}
	f := queues(3, queue(60, x), queue(70), queue(80))
	shapes(t, f, 5, 20, 6, shaped(5, queue(60, x), queue(70), queue(80), queue(0), queue(0)))
	shapes(t, f, 4, 20, 6, shaped(4, queue(60, x), queue(70), queue(80), queue(0)))
	shapes(t, f, 3, 20, 6, shaped(3, queue(60, x), queue(70), queue(80)))
	shapes(t, f, 2, 20, 6, shaped(2, queue(60, x), queue(70)))
	shapes(t, f, 1, 20, 6, shaped(1, queue(60, x)))
	// Somebody waits in the last one, and an empty one ahead of it stays.
	f = queues(3, queue(60), queue(70), queue(80, x, y))
	for open := 1; open <= 3; open++ {
		shapes(t, f, open, 20, 6, shaped(open, f.Lanes...))
	}
	shapes(t, f, 4, 20, 6, shaped(4, queue(60), queue(70), queue(80, x, y), queue(0)))
	f = queues(1, queue(60), queue(70, y), queue(80), queue(90))
	shapes(t, f, 1, 20, 6, shaped(1, queue(60), queue(70, y)))
	shapes(t, f, 2, 20, 6, shaped(2, queue(60), queue(70, y)))
	shapes(t, f, 3, 20, 6, shaped(3, queue(60), queue(70, y), queue(80)))
	shapes(t, f, 4, 20, 6, shaped(4, queue(60), queue(70, y), queue(80), queue(90)))
	shapes(t, f, 5, 20, 6, shaped(5, queue(60), queue(70, y), queue(80), queue(90), queue(0)))
	// An Open that says more lanes, or fewer, than there are does not count, nor does what was wrong ahead.
	for _, n := range extremes {
		f := api.Fair{R: math.MaxUint64, Guess: n, Length: n, Open: n, Lanes: []api.Lane{queue(60), queue(math.MaxUint64, y)}}
		want := api.Fair{R: math.MaxUint64, Guess: 20, Length: 6, Open: 3, Lanes: []api.Lane{queue(60), queue(math.MaxUint64, y), queue(0)}}
		shapes(t, f, 3, 20, 6, want)
	}
	// Those who wait stay, more than the new length as well.
	f = queues(1, queue(60, x, y, x))
	shapes(t, f, 1, 1, 1, api.Fair{R: 100, Guess: 1, Length: 1, Open: 1, Lanes: f.Lanes})
	want := make([]api.Lane, 64)
	shapes(t, api.Fair{}, 64, 1000, 64, api.Fair{Guess: 1000, Length: 64, Open: 64, Lanes: want})
	shapes(t, api.Fair{Lanes: make([]api.Lane, 99)}, 64, 1, 1, api.Fair{Guess: 1, Length: 1, Open: 64, Lanes: want})
}

// P22.4: the errors of Shape are those of New.
func TestShapeNot(t *testing.T) {
	f := queues(1, queue(60, ticket(1, 1)), queue(70))
	for _, open := range about(64) {
		for _, guess := range about(1000) {
			for _, length := range about(64) {
				if _, e := fair.New(open, guess, length); e != api.OK {
					shapesNot(t, f, open, guess, length)
					shapesNot(t, api.Fair{}, open, guess, length)
					continue
				}
				g, e := fair.Shape(f, open, guess, length)
				if e != api.OK || g.Open != open || g.Guess != guess || g.Length != length || len(g.Lanes) != open || g.R != 100 {
					t.Errorf("Shape(%v, %d, %d, %d) = %v, %v", f, open, guess, length, g, e)
				}
			}
		}
	}
}

// P22.4: with somebody waiting and with nobody; then nobody may join, and those who wait are taken, each lane going
// with the last one of it.
func TestShut(t *testing.T) {
	x, y, z := ticket(1, 1), ticket(2, 2), ticket(3, 1)
	for _, open := range append([]int{2, 3, 4}, extremes[:]...) {
		shuts(t, queues(open), queues(0))
		shuts(t, queues(open, queue(60)), queues(0))
		shuts(t, queues(open, queue(60), queue(70), queue(80)), queues(0))
		shuts(t, queues(open, queue(60, x), queue(70), queue(80)), queues(0, queue(60, x)))
		shuts(t, queues(open, queue(60), queue(70, x), queue(80)), queues(0, queue(60), queue(70, x)))
		shuts(t, queues(open, queue(60, x), queue(70), queue(80, y, z)), queues(0, queue(60, x), queue(70), queue(80, y, z)))
	}
	shuts(t, api.Fair{}, api.Fair{})
	f := fair.Shut(queues(3, queue(60, x), queue(70), queue(75, y, z)))
	joinsNot(t, f, []int{0, 1, 2, 3}, ticket(4, 1), api.ErrNone)
	counts(t, f, 3, 4)
	want := queues(0, queue(70), queue(70), queue(75, y, z))
	takes(t, f, want, x)
	takes(t, want, queues(0, queue(70), queue(70), queue(95, z)), y)
	last := queues(0)
	last.R = 105
	takes(t, queues(0, queue(70), queue(70), queue(95, z)), last, z)
	takesNobody(t, last)
	shuts(t, f, f)
	shapes(t, f, 1, 10, 3, queues(1, f.Lanes...))
	shapes(t, last, 2, 10, 3, api.Fair{R: 105, Guess: 10, Length: 3, Open: 2, Lanes: []api.Lane{queue(0), queue(0)}})
}

// P22.4: how many wait, and their seats, in all lanes, those beyond Open as well; each width as it counts.
func TestCounts(t *testing.T) {
	counts(t, api.Fair{}, 0, 0)
	for _, open := range extremes {
		counts(t, queues(open), 0, 0)
		counts(t, queues(open, queue(5), queue(6)), 0, 0)
		counts(t, queues(open, queue(5, ticket(1, 7))), 1, 7)
		counts(t, queues(open, queue(5, ticket(1, 7), ticket(2, 5)), queue(6), queue(7, ticket(1, 3))), 3, 15)
		counts(t, queues(open, queue(5, ticket(1, 0)), queue(6, ticket(1, -5), ticket(1, 16)), queue(7, ticket(1, 17), ticket(1, math.MaxInt), ticket(1, math.MinInt))), 6, 51)
	}
	full := queue(0, slices.Repeat([]api.Ticket{ticket(1, 16)}, 64)...)
	counts(t, queues(64, slices.Repeat([]api.Lane{full}, 64)...), 4096, 65536)
	counts(t, queues(1, slices.Repeat([]api.Lane{full}, 100)...), 6400, 102400)
}

// What follows is the chapter once more, by other means: without layer 21, and with numbers without an end.

func wantBetween(low, n, high int) int {
	if n < low {
		return low
	}
	if n > high {
		return high
	}
	return n
}

func wantSeats(lanes ...api.Lane) (seats int) {
	for _, l := range lanes {
		for _, x := range l.Wait {
			seats += wantBetween(1, x.Width, 16)
		}
	}
	return seats
}

// wantFinish of a lane in which somebody waits.
func wantFinish(l api.Lane, guess int) uint64 {
	most := new(big.Int).Lsh(big.NewInt(1), 62)
	start := new(big.Int).SetUint64(l.Start)
	if start.Cmp(most) > 0 {
		start = most
	}
	work := big.NewInt(int64(wantBetween(1, l.Wait[0].Width, 16) * wantBetween(1, guess, 1000)))
	if sum := new(big.Int).Add(start, work); sum.Cmp(most) <= 0 {
		return sum.Uint64()
	}
	return most.Uint64()
}

// wantFirst is, of these numbers, the one that has the least of what is told of it, of several the first; none: -1.
func wantFirst(of []int, told func(i int) uint64) int {
	for _, i := range of {
		if !slices.ContainsFunc(of, func(j int) bool { return told(j) < told(i) }) {
			return i
		}
	}
	return -1
}

func wantChoose(f api.Fair, hand []int) int {
	var may []int
	for _, i := range hand {
		if i >= 0 && i < f.Open && i < len(f.Lanes) {
			may = append(may, i)
		}
	}
	return wantFirst(may, func(i int) uint64 { return uint64(wantSeats(f.Lanes[i])) })
}

func wantNext(f api.Fair) int {
	var may []int
	for i, l := range f.Lanes {
		if len(l.Wait) > 0 {
			may = append(may, i)
		}
	}
	return wantFirst(may, func(i int) uint64 { return wantFinish(f.Lanes[i], f.Guess) })
}

func wantTrimmed(f api.Fair) api.Fair {
	last := len(f.Lanes) - 1
	if last < 0 || last < f.Open || len(f.Lanes[last].Wait) > 0 {
		return f
	}
	f.Lanes = f.Lanes[:last]
	return wantTrimmed(f)
}

func wantJoin(f api.Fair, i int, x api.Ticket) api.Fair {
	f = copied(f)
	if l := &f.Lanes[i]; len(l.Wait) == 0 && f.R > l.Start {
		l.Start = f.R
	}
	f.Lanes[i].Wait = append(f.Lanes[i].Wait, x)
	return f
}

func wantTake(f api.Fair, i int) api.Fair {
	f = copied(f)
	finish := wantFinish(f.Lanes[i], f.Guess)
	f.Lanes[i] = queue(finish, f.Lanes[i].Wait[1:]...)
	if finish > f.R {
		f.R = finish
	}
	return wantTrimmed(f)
}

// wantDrop is what is left, and who was dropped: one, or nobody.
func wantDrop(f api.Fair, id int) (api.Fair, []api.Ticket) {
	f = copied(f)
	for i, l := range f.Lanes {
		for k, x := range l.Wait {
			if x.ID == id {
				f.Lanes[i].Wait = slices.Delete(l.Wait, k, k+1)
				return wantTrimmed(f), []api.Ticket{x}
			}
		}
	}
	return f, nil
}

func wantShape(f api.Fair, open, guess, length int) api.Fair {
	f = copied(f)
	f.Open, f.Guess, f.Length = open, guess, length
	for len(f.Lanes) < open {
		f.Lanes = append(f.Lanes, api.Lane{})
	}
	return wantTrimmed(f)
}

func wantShut(f api.Fair) api.Fair {
	f = copied(f)
	f.Open = 0
	return wantTrimmed(f)
}

// number is a small one, or one of any size.
func (r *random) number(small int) int {
	return pick(r, r.below(small), r.below(small), r.below(small), r.below(small), pick(r, extremes[:]...), int(r.next()))
}

// ticket of any numbers, of few IDs, so that some are there twice.
func (r *random) ticket() api.Ticket {
	return api.Ticket{ID: r.number(9), Width: r.number(20) - 1, Seats: r.number(20), Since: r.number(10), Until: r.number(10)}
}

func (r *random) start() uint64 {
	return pick(r, 0, uint64(r.below(60)), uint64(r.below(60)), uint64(r.below(60)), api.Cap-uint64(r.below(60)), api.Cap, r.next())
}

// lanes of any numbers, many of them with nobody, and often with finishes that are the same.
func (r *random) fair() api.Fair {
	f := api.Fair{R: r.start(), Guess: pick(r, 1, 5, 10, r.number(1100)), Length: pick(r, 3, r.number(5)), Open: r.number(7)}
	crowd := pick(r, 1, 2, 2, 3, 3, 5, 30)
	for range pick(r, 0, 1, r.below(9), r.below(9), r.below(70)) {
		l := api.Lane{Start: r.start()}
		for range r.below(crowd) {
			l.Wait = append(l.Wait, r.ticket())
		}
		f.Lanes = append(f.Lanes, l)
	}
	return f
}

func (r *random) hand() (hand []int) {
	for range r.below(9) {
		hand = append(hand, r.number(8)-1)
	}
	return hand
}

// P22.2: many lanes and hands, held against the chapter said in another way.
func TestJoinAgainstTheChapter(t *testing.T) {
	r, none, full := seed, 0, 0
	for range 30000 {
		f, hand, x := r.fair(), r.hand(), r.ticket()
		i := wantChoose(f, hand)
		chooses(t, f, i, hand...)
		switch {
		case i < 0:
			none++
			joinsNot(t, f, hand, x, api.ErrNone)
		case len(f.Lanes[i].Wait) >= f.Length:
			full++
			joinsNot(t, f, hand, x, api.ErrFull)
		default:
			joins(t, f, hand, x, wantJoin(f, i, x), i)
		}
		if t.Failed() {
			t.FailNow()
		}
	}
	if none < 1000 || full < 1000 || none+full > 27000 {
		t.Errorf("none %d times, full %d times", none, full)
	}
}

// P22.3: many lanes, held against the chapter said in another way.
func TestTakeAndDropAgainstTheChapter(t *testing.T) {
	r, nobody, noID, trimmed := seed, 0, 0, 0
	for range 30000 {
		f, id := r.fair(), r.number(9)
		if i := wantNext(f); i < 0 {
			nobody++
			takesNobody(t, f)
		} else {
			nexts(t, f, i)
			takes(t, f, wantTake(f, i), f.Lanes[i].Wait[0])
		}
		if want, who := wantDrop(f, id); len(who) == 0 {
			noID++
			dropsNobody(t, f, id)
		} else {
			drops(t, f, id, want, who[0])
			if len(want.Lanes) < len(f.Lanes) {
				trimmed++
			}
		}
		if t.Failed() {
			t.FailNow()
		}
	}
	if nobody < 1000 || noID < 1000 || noID > 27000 || trimmed < 500 {
		t.Errorf("nobody %d times, no such ID %d times, trimmed %d times", nobody, noID, trimmed)
	}
}

// P22.4: many lanes, held against the chapter said in another way.
func TestShapeAgainstTheChapter(t *testing.T) {
	r, refused, more, fewer := seed, 0, 0, 0
	for range 30000 {
		f := r.fair()
		open, guess, length := pick(&r, 1+r.below(64), 1+r.below(9), r.number(9)), pick(&r, 5, 7, r.number(1000)), pick(&r, 5, 7, r.number(64))
		if open < 1 || open > 64 || guess < 1 || guess > 1000 || length < 1 || length > 64 {
			refused++
			shapesNot(t, f, open, guess, length)
		} else {
			want := wantShape(f, open, guess, length)
			shapes(t, f, open, guess, length, want)
			if len(want.Lanes) > len(f.Lanes) {
				more++
			}
			if len(want.Lanes) < len(f.Lanes) {
				fewer++
			}
		}
		shuts(t, f, wantShut(f))
		waiting := 0
		for _, l := range f.Lanes {
			waiting += len(l.Wait)
		}
		counts(t, f, waiting, wantSeats(f.Lanes...))
		if t.Failed() {
			t.FailNow()
		}
	}
	if refused < 1000 || more < 1000 || fewer < 1000 {
		t.Errorf("refused %d times, more lanes %d times, fewer %d times", refused, more, fewer)
	}
}

// P22.2: hands of layer 7, so that a flow that fills its lanes leaves those of the others.
func TestHandsOfCards(t *testing.T) {
	f, e := fair.New(8, 10, 4)
	if e != api.OK {
		t.Fatal(e)
	}
	hand, e := deal.Deal(5, 8, 3)
	if e != api.OK {
		t.Fatal(e)
	}
	for n := range 12 {
		g, i, e := fair.Join(f, hand, ticket(n, 2))
		if e != api.OK || i != hand[n%3] {
			t.Fatalf("%d: joined %d of %v, %v", n, i, hand, e)
		}
		f = g
	}
	joinsNot(t, f, hand, ticket(12, 2), api.ErrFull)
	counts(t, f, 12, 24)
	for i, l := range f.Lanes {
		want := 0
		if slices.Contains(hand, i) {
			want = 4
		}
		if len(l.Wait) != want {
			t.Errorf("%d wait in lane %d; want %d (%v)", len(l.Wait), i, want, hand)
		}
	}
}
