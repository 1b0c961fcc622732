package level_test

import (
	"math"
	"slices"
	"testing"

	"usher/api"
	"usher/fair"
	"usher/level"
)

// random are numbers, the same ones each time.
type random uint64

func (r *random) next() uint64 {
	x := uint64(*r)
	x ^= x << 13
	x ^= x >> 7
	x ^= x << 17
	*r = random(x)
	return x
}

func (r *random) below(n int) int { return int((r.next() >> 11) % uint64(n)) }

func pick[T any](r *random, of ...T) T { return of[r.below(len(of))] }

const seed = random(88172645463325252)

var (
	// extremes are numbers that are far from all that may be.
	extremes = [...]int{math.MinInt, math.MinInt + 1, -1 << 32, -1, 0, 1, 1 << 32, 1<<32 + 1, math.MaxInt - 1, math.MaxInt}
	// kinds that there are, and some that are none.
	kinds = [...]int{api.Exempt, api.Reject, api.Queue, 0, 4, -1, -3, 1<<32 + 1, 1<<32 + 3, math.MinInt, math.MaxInt}
)

// others are the kinds that are neither Exempt nor Queue.
func others() []int {
	return slices.DeleteFunc(slices.Clone(kinds[:]), func(kind int) bool { return kind == api.Exempt || kind == api.Queue })
}

// about are the numbers about 1 and most, and the extremes.
func about(most int) []int {
	return append([]int{-most, -2, 2, 3, most - 1, most, most + 1, most + 2, 2 * most, most + 1<<32}, extremes[:]...)
}

// ticket of somebody who waits, or comes.
func ticket(id, width int) api.Ticket {
	return api.Ticket{ID: id, Width: width, Seats: id + 100, Since: id + 200, Until: id + 300}
}

// until: somebody who waits till then.
func until(id, moment int) api.Ticket {
	return api.Ticket{ID: id, Width: id, Seats: moment + 100, Since: moment - 3, Until: moment}
}

// running: somebody who has so many seats.
func running(id, seats int) api.Ticket {
	return api.Ticket{ID: id, Width: seats + 1, Seats: seats, Since: id + 200, Until: id + 300}
}

// seated: the same one with so many seats.
func seated(x api.Ticket, seats int) api.Ticket {
	x.Seats = seats
	return x
}

func queue(start uint64, wait ...api.Ticket) api.Lane { return api.Lane{Start: start, Wait: wait} }

func named(kind int) api.Level {
	return api.Level{Name: "a", Kind: kind, Shares: 3, Lend: 4, Borrow: 5, Queues: 2, Hand: 1, Length: 3, Wait: 7, Guess: 10}
}

// at work: a level with R 100, a guess of 10, a length of 3, and lanes that are all open.
func at(kind, limit int, lanes ...api.Lane) api.State {
	return api.State{
		Level: named(kind), Limit: limit, Bound: api.Bound{Nominal: 2, Min: 1, Max: 3}, Demand: api.Demand{High: 8, Smooth: 6},
		Fair: api.Fair{R: 100, Guess: 10, Length: 3, Open: len(lanes), Lanes: lanes},
	}
}

// with these who run.
func with(s api.State, run ...api.Ticket) api.State {
	s.Running = run
	return s
}

// lanes that are there instead, of which open take who comes; and their R.
func lanes(s api.State, open int, r uint64, of ...api.Lane) api.State {
	s.Fair.Open, s.Fair.R, s.Fair.Lanes = open, r, of
	return s
}

func quiet(s api.State) api.State {
	s.Quiet = true
	return s
}

func sameLanes(a, b api.Fair) bool {
	return a.R == b.R && a.Guess == b.Guess && a.Length == b.Length && a.Open == b.Open &&
		slices.EqualFunc(a.Lanes, b.Lanes, func(l, m api.Lane) bool { return l.Start == m.Start && slices.Equal(l.Wait, m.Wait) })
}

func same(a, b api.State) bool {
	return a.Level == b.Level && a.Quiet == b.Quiet && a.Limit == b.Limit && a.Bound == b.Bound && a.Demand == b.Demand &&
		sameLanes(a.Fair, b.Fair) && slices.Equal(a.Running, b.Running)
}

func zero(s api.State) bool { return same(s, api.State{}) }

// copied: the same state in memory of its own.
func copied(s api.State) api.State {
	s.Running = slices.Clone(s.Running)
	s.Fair.Lanes = slices.Clone(s.Fair.Lanes)
	for i, l := range s.Fair.Lanes {
		s.Fair.Lanes[i].Wait = slices.Clone(l.Wait)
	}
	return s
}

func fits(t *testing.T, s api.State, width, want int) {
	t.Helper()
	if got, ok := level.Fits(s, width); !ok || got != want {
		t.Errorf("Fits(%v, %d) = %d, %t; want %d", s, width, got, ok, want)
	}
}

func fitsNot(t *testing.T, s api.State, width int) {
	t.Helper()
	if got, ok := level.Fits(s, width); ok || got != 0 {
		t.Errorf("Fits(%v, %d) = %d, %t", s, width, got, ok)
	}
}

func counts(t *testing.T, s api.State, runs, wants int, empty bool) {
	t.Helper()
	if n, m, e := level.Runs(s), level.Wants(s), level.Empty(s); n != runs || m != wants || e != empty {
		t.Errorf("of %v: Runs %d, Wants %d, Empty %t; want %d, %d, %t", s, n, m, e, runs, wants, empty)
	}
}

func arrives(t *testing.T, s api.State, x api.Ticket, hand []int, want api.State) {
	t.Helper()
	if got, e := level.Arrive(s, x, hand); e != api.OK || !same(got, want) {
		t.Errorf("Arrive(%v, %v, %v) = %v, %v; want %v", s, x, hand, got, e, want)
	}
}

// arrivesNot: the error, nothing beside it, and what was handed in as it is.
func arrivesNot(t *testing.T, s api.State, x api.Ticket, hand []int, want api.Errno) {
	t.Helper()
	before, cards := copied(s), slices.Clone(hand)
	if got, e := level.Arrive(s, x, hand); e != want || !zero(got) {
		t.Errorf("Arrive(%v, %v, %v) = %v, %v; want %v", s, x, hand, got, e, want)
	}
	if !same(s, before) || !slices.Equal(hand, cards) {
		t.Errorf("Arrive(%v, %v, %v) left %v, %v", before, x, cards, s, hand)
	}
}

func dispatches(t *testing.T, s, want api.State, who ...api.Ticket) {
	t.Helper()
	if got, taken := level.Dispatch(s); !same(got, want) || !slices.Equal(taken, who) {
		t.Errorf("Dispatch(%v) = %v, %v; want %v, %v", s, got, taken, want, who)
	}
}

func done(t *testing.T, s api.State, id int, want api.State, who api.Ticket) {
	t.Helper()
	if got, x, e := level.Done(s, id); e != api.OK || x != who || !same(got, want) {
		t.Errorf("Done(%v, %d) = %v, %v, %v; want %v, %v", s, id, got, x, e, want, who)
	}
}

// doneNot: ErrNone, nothing beside it, and what was handed in as it is.
func doneNot(t *testing.T, s api.State, id int) {
	t.Helper()
	before := copied(s)
	if got, x, e := level.Done(s, id); e != api.ErrNone || x != (api.Ticket{}) || !zero(got) {
		t.Errorf("Done(%v, %d) = %v, %v, %v", s, id, got, x, e)
	}
	if !same(s, before) {
		t.Errorf("Done(%v, %d) left %v", before, id, s)
	}
}

func drops(t *testing.T, s api.State, id int, want api.State, who api.Ticket) {
	t.Helper()
	if got, x, e := level.Drop(s, id); e != api.OK || x != who || !same(got, want) {
		t.Errorf("Drop(%v, %d) = %v, %v, %v; want %v, %v", s, id, got, x, e, want, who)
	}
}

// dropsNot: ErrNone, nothing beside it, and what was handed in as it is.
func dropsNot(t *testing.T, s api.State, id int) {
	t.Helper()
	before := copied(s)
	if got, x, e := level.Drop(s, id); e != api.ErrNone || x != (api.Ticket{}) || !zero(got) {
		t.Errorf("Drop(%v, %d) = %v, %v, %v", s, id, got, x, e)
	}
	if !same(s, before) {
		t.Errorf("Drop(%v, %d) left %v", before, id, s)
	}
}

func late(t *testing.T, s api.State, now int, want api.State, who ...api.Ticket) {
	t.Helper()
	if got, gone := level.Late(s, now); !same(got, want) || !slices.Equal(gone, who) {
		t.Errorf("Late(%v, %d) = %v, %v; want %v, %v", s, now, got, gone, want, who)
	}
}

func turns(t *testing.T, s api.State, l api.Level, quiet bool, want api.State) {
	t.Helper()
	if got := level.Turn(s, l, quiet); !same(got, want) {
		t.Errorf("Turn(%v, %v, %t) = %v; want %v", s, l, quiet, got, want)
	}
}

// The chapter's example.
func TestExample(t *testing.T) {
	s := level.Open(api.Level{Kind: api.Queue, Queues: 1, Guess: 1, Length: 2})
	s.Limit = 3
	for i, width := range []int{5, 1} {
		next, e := level.Arrive(s, ticket(i+1, width), []int{0})
		if e != api.OK {
			t.Fatal(e)
		}
		s = next
	}
	a, b := seated(ticket(1, 5), 3), ticket(2, 1)
	s, taken := level.Dispatch(s)
	if !slices.Equal(taken, []api.Ticket{a}) || !slices.Equal(s.Running, taken) || !slices.Equal(s.Fair.Lanes[0].Wait, []api.Ticket{seated(b, 0)}) {
		t.Fatalf("%v, %v", s, taken)
	}
	s, x, e := level.Done(s, 1)
	if e != api.OK || x != a {
		t.Fatal(x, e)
	}
	s, taken = level.Dispatch(s)
	if !slices.Equal(taken, []api.Ticket{seated(b, 1)}) || !slices.Equal(s.Running, taken) || fair.Waiting(s.Fair) > 0 {
		t.Errorf("%v, %v", s, taken)
	}
}

// P23.1: lanes of the numbers that may be, none of those that may not, and none in another kind; all else is 0.
func TestOpen(t *testing.T) {
	for _, open := range about(64) {
		for _, guess := range about(1000) {
			for _, length := range about(64) {
				l := named(api.Queue)
				l.Queues, l.Guess, l.Length = open, guess, length
				want := api.State{Level: l}
				if open >= 1 && open <= 64 && guess >= 1 && guess <= 1000 && length >= 1 && length <= 64 {
					want.Fair = api.Fair{Guess: guess, Length: length, Open: open, Lanes: make([]api.Lane, open)}
				}
				if got := level.Open(l); !same(got, want) {
					t.Errorf("Open(%v) = %v", l, got)
				}
			}
		}
	}
	for _, kind := range kinds {
		if kind == api.Queue {
			continue
		}
		for _, l := range []api.Level{named(kind), {Kind: kind}} {
			s := level.Open(l)
			if !same(s, api.State{Level: l}) {
				t.Errorf("Open(%v) = %v", l, s)
			}
			counts(t, s, 0, 0, true)
		}
	}
}

// P23.1: what the lanes don't ask for is told as it is, whatever it is.
func TestOpenAnyLevel(t *testing.T) {
	for _, n := range extremes {
		for _, kind := range kinds {
			l := api.Level{Name: "\x00no name", Kind: kind, Shares: n, Lend: n, Borrow: n, Queues: 3, Hand: n, Length: 2, Wait: n, Guess: 5}
			want := api.State{Level: l}
			if kind == api.Queue {
				want.Fair = api.Fair{Guess: 5, Length: 2, Open: 3, Lanes: make([]api.Lane, 3)}
			}
			if s := level.Open(l); !same(s, want) {
				t.Errorf("Open(%v) = %v", l, s)
			}
		}
	}
}

// P23.1: each width as it counts: in a level that is exempt, with whatever Limit and whoever runs and waits.
func TestFitsExempt(t *testing.T) {
	full := slices.Repeat([]api.Ticket{running(1, 16)}, 300)
	for _, limit := range append([]int{2, 16, 4096}, extremes[:]...) {
		for _, s := range []api.State{
			{Level: api.Level{Kind: api.Exempt}, Limit: limit},
			at(api.Exempt, limit, queue(5, ticket(1, 16))),
			with(at(api.Exempt, limit), full...),
			quiet(with(at(api.Exempt, limit), full...)),
		} {
			for _, width := range about(16) {
				fits(t, s, width, min(max(width, 1), 16))
			}
			for width := 1; width <= 16; width++ {
				fits(t, s, width, width)
			}
		}
	}
}

// P23.1: nothing is Running: Limit at the most, if there is any.
func TestFitsWhereNothingRuns(t *testing.T) {
	for _, kind := range append(others(), api.Queue) {
		for _, width := range append(about(16), 5, 8) {
			for _, limit := range []int{math.MinInt, -1 << 32, -16, -1, 0} {
				fitsNot(t, at(kind, limit), width)
				fitsNot(t, at(kind, limit, queue(0, ticket(1, 1))), width)
			}
			as := min(max(width, 1), 16)
			for limit := 1; limit <= 18; limit++ {
				fits(t, at(kind, limit), width, min(as, limit))
			}
			for _, limit := range []int{4096, 1 << 32, math.MaxInt} {
				fits(t, at(kind, limit), width, as)
			}
		}
		fits(t, at(kind, 3), 5, 3)
		fits(t, at(kind, 3), 3, 3)
		fits(t, at(kind, 3), 2, 2)
		fits(t, at(kind, 1), math.MaxInt, 1)
		fits(t, with(at(kind, 3), []api.Ticket{running(1, 1)}[:0]...), 5, 3)
		// Who waits, and that the level is Quiet, is not asked.
		fits(t, at(kind, 3, queue(0, ticket(1, 16))), 5, 3)
		fits(t, quiet(at(kind, 3)), 5, 3)
	}
}

// P23.1: Limit just at the seats that run and the width, one below and one above, and below those that run already.
func TestFitsBesideWhoRuns(t *testing.T) {
	for _, kind := range append(others(), api.Queue) {
		for _, run := range [][]int{{1}, {2, 1}, {16}, {16, 16, 5}, {3, 0, -7}, {0}, {-5}, {0, 0}, {99, math.MaxInt}, {math.MinInt, 4}, slices.Repeat([]int{16}, 256)} {
			s, all := at(kind, 0), 0
			for i, seats := range run {
				s.Running, all = append(s.Running, running(i, seats)), all+min(max(seats, 0), 16)
			}
			counts(t, s, all, all, false)
			for _, width := range append(about(16), 5, 8) {
				as := min(max(width, 1), 16)
				for _, limit := range []int{math.MinInt, -1, 0, all - 1, all, all + as - 1} {
					s.Limit = limit
					fitsNot(t, s, width)
				}
				for _, limit := range []int{all + as, all + as + 1, all + 99, math.MaxInt} {
					s.Limit = limit
					fits(t, s, width, as)
				}
			}
		}
	}
	// Somebody who has no seats runs all the same: who is wider than Limit does not fit beside that one.
	fitsNot(t, with(at(api.Queue, 3), running(1, 0)), 5)
	fitsNot(t, with(at(api.Queue, 3), running(1, -9)), 4)
	fits(t, with(at(api.Queue, 3), running(1, 0)), 3, 3)
	// Who waits takes no seats.
	fits(t, with(at(api.Reject, 3, queue(0, ticket(1, 16))), running(1, 1)), 2, 2)
}

// P23.1: the seats that run, each as it counts, not the widths; those who wait by their widths, in all lanes.
func TestCounts(t *testing.T) {
	for _, kind := range kinds {
		for _, limit := range extremes {
			s := at(kind, limit)
			counts(t, s, 0, 0, true)
			counts(t, quiet(s), 0, 0, true)
			counts(t, at(kind, limit, queue(5), queue(6)), 0, 0, true)
			counts(t, at(kind, limit, queue(5), queue(6, ticket(1, 3))), 0, 3, false)
			counts(t, quiet(at(kind, limit, queue(5), queue(6, ticket(1, 3)))), 0, 3, false)
			counts(t, lanes(s, 0, 5, queue(5, ticket(1, 2)), queue(6, ticket(1, 3), ticket(2, -5), ticket(3, 99))), 0, 22, false)
			counts(t, with(s, running(1, 7)), 7, 7, false)
			counts(t, with(s, running(1, 0)), 0, 0, false)
			counts(t, with(s, running(1, -1)), 0, 0, false)
			counts(t, with(s, running(1, 15), running(1, 16), running(2, 17)), 47, 47, false)
			counts(t, with(s, running(1, math.MaxInt), running(2, math.MaxInt-1), running(3, math.MinInt)), 32, 32, false)
			counts(t, with(at(kind, limit, queue(5, ticket(1, 7)), queue(6, ticket(2, 1))), running(3, 5), running(4, -5)), 5, 13, false)
		}
	}
	counts(t, api.State{}, 0, 0, true)
	full := queue(0, slices.Repeat([]api.Ticket{ticket(1, 16)}, 64)...)
	s := with(at(api.Queue, 1, slices.Repeat([]api.Lane{full}, 64)...), slices.Repeat([]api.Ticket{running(1, 16)}, 4096)...)
	counts(t, s, 65536, 131072, false)
}

// P23.2: a level that is Quiet takes nobody, whatever else is wrong, and whatever is right.
func TestArriveWhereItIsQuiet(t *testing.T) {
	full := queue(0, ticket(1, 1), ticket(2, 1), ticket(3, 1))
	for _, kind := range kinds {
		for _, limit := range []int{-1, 0, 1, 99} {
			for _, s := range []api.State{
				{Level: api.Level{Kind: kind}, Limit: limit}, at(kind, limit), at(kind, limit, queue(0)), at(kind, limit, full),
				with(at(kind, limit, queue(0)), running(1, 1)),
			} {
				for _, hand := range [][]int{nil, {}, {0}, {5}} {
					arrivesNot(t, quiet(s), ticket(9, 1), hand, api.ErrState)
				}
			}
		}
	}
}

// P23.2: in a queue who comes waits, without seats, whatever Limit is and whoever runs.
func TestArriveInAQueue(t *testing.T) {
	x, y, z := ticket(1, 5), ticket(2, 1), ticket(3, 99)
	for _, limit := range append([]int{2, 4096}, extremes[:]...) {
		for _, run := range [][]api.Ticket{nil, {running(7, 16)}, {running(7, 2), running(8, 0)}} {
			s := with(at(api.Queue, limit, queue(60, x), queue(70), queue(180)), run...)
			arrives(t, s, y, []int{0}, lanes(s, 3, 100, queue(60, x, seated(y, 0)), queue(70), queue(180)))
			arrives(t, s, y, []int{1}, lanes(s, 3, 100, queue(60, x), queue(100, seated(y, 0)), queue(180)))
			arrives(t, s, y, []int{0, 2, 1}, lanes(s, 3, 100, queue(60, x), queue(70), queue(180, seated(y, 0))))
			arrives(t, s, z, []int{-1, 3, 0, 0}, lanes(s, 3, 100, queue(60, x, seated(z, 0)), queue(70), queue(180)))
			// The same one, and any ticket at all.
			arrives(t, s, x, []int{0}, lanes(s, 3, 100, queue(60, x, seated(x, 0)), queue(70), queue(180)))
			arrives(t, s, api.Ticket{}, []int{0}, lanes(s, 3, 100, queue(60, x, api.Ticket{}), queue(70), queue(180)))
		}
	}
	for _, n := range extremes {
		w := api.Ticket{ID: n, Width: -n, Seats: n, Since: n, Until: n}
		s := at(api.Queue, 0, queue(60, x))
		arrives(t, s, w, []int{0}, lanes(s, 1, 100, queue(60, x, api.Ticket{ID: n, Width: -n, Since: n, Until: n})))
	}
}

// P23.2: in a queue the errors are those of fair.Join: hands with nothing in them, and lanes that are full, also where
// there would be seats.
func TestArriveInAQueueNot(t *testing.T) {
	x := ticket(1, 1)
	full := queue(60, x, x, x)
	s := at(api.Queue, 99, full, queue(70, x, x), queue(80))
	for _, hand := range [][]int{nil, {}, {-1}, {3}, {3, -1, 4, math.MaxInt, math.MinInt}} {
		arrivesNot(t, s, x, hand, api.ErrNone)
		arrivesNot(t, at(api.Queue, 99), x, hand, api.ErrNone)
	}
	arrivesNot(t, s, x, []int{0}, api.ErrFull)
	arrivesNot(t, s, x, []int{0, 0, 3, -1}, api.ErrFull)
	s.Fair.Length = 2
	arrivesNot(t, s, x, []int{0}, api.ErrFull)
	arrivesNot(t, s, x, []int{1}, api.ErrFull)
	arrivesNot(t, s, x, []int{1, 0}, api.ErrFull)
	arrives(t, s, x, []int{0, 1, 2}, lanes(s, 3, 100, full, queue(70, x, x), queue(100, seated(x, 0))))
	// Lanes that are shut, and a level whose numbers make no lanes.
	s.Fair.Open = 0
	arrivesNot(t, s, x, []int{0, 1, 2}, api.ErrNone)
	arrivesNot(t, level.Open(api.Level{Kind: api.Queue, Queues: 65, Guess: 1, Length: 1}), x, []int{0}, api.ErrNone)
	arrivesNot(t, api.State{Level: api.Level{Kind: api.Queue}, Limit: 9}, x, []int{0}, api.ErrNone)
}

// P23.2: in an exempt level all run at once, behind all others, whatever Limit is, whoever waits, and whatever the hand.
func TestArriveWhereAllAreExempt(t *testing.T) {
	x, y := running(1, 16), running(2, 0)
	for _, limit := range extremes {
		for _, hand := range [][]int{nil, {}, {0}, {-1, 5}} {
			for _, width := range about(16) {
				z := seated(ticket(3, width), min(max(width, 1), 16))
				for _, s := range []api.State{at(api.Exempt, limit), at(api.Exempt, limit, queue(0)), at(api.Exempt, limit, queue(9, ticket(4, 1)))} {
					arrives(t, s, ticket(3, width), hand, with(s, z))
					arrives(t, with(s, x), ticket(3, width), hand, with(s, x, z))
					arrives(t, with(s, x, y), ticket(3, width), hand, with(s, x, y, z))
					arrives(t, with(s, z, x), ticket(3, width), hand, with(s, z, x, z))
				}
			}
		}
	}
}

// P23.2: in a level of another kind who fits runs, and who does not is refused; whatever the hand.
func TestArriveInAnother(t *testing.T) {
	x, y := running(1, 4), running(2, -3)
	for _, kind := range others() {
		for _, hand := range [][]int{nil, {}, {0}, {-1, 5}} {
			for _, s := range []api.State{at(kind, 6), at(kind, 6, queue(5), queue(7))} {
				arrives(t, s, ticket(9, 5), hand, with(s, seated(ticket(9, 5), 5)))
				arrives(t, s, ticket(9, 99), hand, with(s, seated(ticket(9, 99), 6)))
				arrives(t, with(s, x), ticket(9, 1), hand, with(s, x, seated(ticket(9, 1), 1)))
				arrives(t, with(s, x, y), ticket(9, 2), hand, with(s, x, y, seated(ticket(9, 2), 2)))
				arrives(t, with(s, y, x), ticket(9, -2), hand, with(s, y, x, seated(ticket(9, -2), 1)))
				arrives(t, with(s, x), ticket(1, 2), hand, with(s, x, seated(ticket(1, 2), 2)))
				arrivesNot(t, with(s, x), ticket(9, 3), hand, api.ErrFull)
				arrivesNot(t, with(s, x, y), ticket(9, 99), hand, api.ErrFull)
				arrivesNot(t, with(s, x, x), ticket(9, 1), hand, api.ErrFull)
				arrivesNot(t, with(s, y), ticket(9, 7), hand, api.ErrFull)
				for _, limit := range []int{math.MinInt, -1, 0} {
					s.Limit = limit
					arrivesNot(t, s, ticket(9, 1), hand, api.ErrFull)
					arrivesNot(t, with(s, x), ticket(9, 1), hand, api.ErrFull)
				}
			}
			// Somebody waits: nobody goes ahead of that one, though there are seats.
			for _, waits := range []api.Lane{queue(5, ticket(7, 16)), queue(5, ticket(9, 1))} {
				s := at(kind, 99, queue(0), waits)
				arrivesNot(t, s, ticket(9, 1), hand, api.ErrFull)
				arrivesNot(t, with(s, x), ticket(9, 1), hand, api.ErrFull)
				arrivesNot(t, lanes(s, 0, 0, waits), ticket(9, 1), hand, api.ErrFull)
			}
		}
	}
}

// P23.3: in the order of virtual time, each with the seats that it fits for, till the next one does not fit.
func TestDispatch(t *testing.T) {
	a, b, c, d := ticket(1, 1), ticket(2, 2), ticket(3, 3), ticket(4, 4)
	s := at(api.Queue, 10, queue(100, a, d), queue(100, b, c))
	// Finishes: a 110, b 120; then d 150, c 150.
	at4 := lanes(s, 2, 150, queue(150), queue(120, c))
	at4.Limit = 9
	s.Limit = 9
	dispatches(t, s, with(at4, seated(a, 1), seated(b, 2), seated(d, 4)), seated(a, 1), seated(b, 2), seated(d, 4))
	s.Limit = 10
	all := lanes(s, 2, 150, queue(150), queue(150))
	who := []api.Ticket{seated(a, 1), seated(b, 2), seated(d, 4), seated(c, 3)}
	dispatches(t, s, with(all, who...), who...)
	// Those who run stay ahead, and count.
	x := running(9, 5)
	s.Limit = 8
	dispatches(t, with(s, x), with(lanes(s, 2, 120, queue(110, d), queue(120, c)), x, seated(a, 1), seated(b, 2)), seated(a, 1), seated(b, 2))
	s.Limit = 7
	dispatches(t, with(s, x), with(lanes(s, 2, 110, queue(110, d), queue(100, b, c)), x, seated(a, 1)), seated(a, 1))
	for _, limit := range []int{math.MinInt, -1, 0, 1, 4, 5} {
		s.Limit = limit
		dispatches(t, with(s, x), with(s, x))
	}
}

// P23.3: where nothing is Running the first one runs whatever its width is; behind that one all have to fit.
func TestDispatchWhoIsTooWide(t *testing.T) {
	wide, a := ticket(1, 16), ticket(2, 1)
	for limit := 1; limit <= 15; limit++ {
		s := at(api.Queue, limit, queue(100, wide, a))
		dispatches(t, s, with(lanes(s, 1, 260, queue(260, a)), seated(wide, limit)), seated(wide, limit))
		s = at(api.Queue, limit, queue(100, wide, wide))
		dispatches(t, s, with(lanes(s, 1, 260, queue(260, wide)), seated(wide, limit)), seated(wide, limit))
	}
	s := at(api.Queue, 16, queue(100, wide, a))
	dispatches(t, s, with(lanes(s, 1, 260, queue(260, a)), seated(wide, 16)), seated(wide, 16))
	s.Limit = 17
	dispatches(t, s, with(lanes(s, 1, 270, queue(270)), seated(wide, 16), seated(a, 1)), seated(wide, 16), seated(a, 1))
	for _, limit := range []int{math.MinInt, -1, 0} {
		s.Limit = limit
		dispatches(t, s, s)
	}
}

// P23.3: who is next and does not fit holds up all others, in its lane and in other ones, though they would fit.
func TestDispatchNobodyAhead(t *testing.T) {
	wide, a := ticket(1, 4), ticket(2, 1)
	x := running(9, 3)
	s := at(api.Queue, 6, queue(100, a, a), queue(50, wide, a))
	dispatches(t, with(s, x), with(s, x))
	s.Limit = 7
	dispatches(t, with(s, x), with(lanes(s, 2, 100, queue(100, a, a), queue(90, a)), x, seated(wide, 4)), seated(wide, 4))
	s.Limit = 8
	dispatches(t, with(s, x), with(lanes(s, 2, 100, queue(100, a, a), queue(100)), x, seated(wide, 4), seated(a, 1)), seated(wide, 4), seated(a, 1))
	s.Limit = 9
	dispatches(t, with(s, x), with(lanes(s, 2, 110, queue(110, a), queue(100)), x, seated(wide, 4), seated(a, 1), seated(a, 1)), seated(wide, 4), seated(a, 1), seated(a, 1))
	// Of two lanes with the same finish the first one is next.
	s = at(api.Queue, 4, queue(100, ticket(1, 2)), queue(110, ticket(2, 1)))
	dispatches(t, with(s, x), with(s, x))
	s = at(api.Queue, 4, queue(110, ticket(2, 1)), queue(100, ticket(1, 2)))
	dispatches(t, with(s, x), with(lanes(s, 2, 120, queue(120), queue(100, ticket(1, 2))), x, seated(ticket(2, 1), 1)), seated(ticket(2, 1), 1))
}

// P23.3: nobody waits: the state stays, its empty lanes beyond Open too.
func TestDispatchNobody(t *testing.T) {
	for _, kind := range kinds {
		for _, limit := range extremes {
			for _, run := range [][]api.Ticket{nil, {running(1, 3)}, {running(1, 16), running(1, -1)}} {
				for _, s := range []api.State{{Level: api.Level{Kind: kind}}, at(kind, limit), at(kind, limit, queue(5), queue(6)), lanes(at(kind, limit), 0, 9, queue(5), queue(6))} {
					dispatches(t, with(s, run...), with(s, run...))
					dispatches(t, quiet(with(s, run...)), quiet(with(s, run...)))
				}
			}
		}
	}
}

// P23.3: whatever the kind is, who waits is dispatched; lanes that are shut go with the last one of them, and who is
// late, or the level Quiet, is not asked.
func TestDispatchInAnyKind(t *testing.T) {
	x := running(9, 3)
	for _, kind := range kinds {
		a := api.Ticket{ID: 1, Width: 2, Seats: 5, Since: 9, Until: math.MinInt}
		s := lanes(at(kind, 5), 0, 100, queue(5), queue(100, a), queue(110, ticket(2, 1)))
		for _, s := range []api.State{s, quiet(s)} {
			if kind == api.Exempt {
				dispatches(t, with(s, x), with(lanes(s, 0, 120), x, seated(a, 2), seated(ticket(2, 1), 1)), seated(a, 2), seated(ticket(2, 1), 1))
				continue
			}
			dispatches(t, with(s, x), with(lanes(s, 0, 120, queue(5), queue(120), queue(110, ticket(2, 1))), x, seated(a, 2)), seated(a, 2))
			s.Limit = 6
			dispatches(t, with(s, x), with(lanes(s, 0, 120), x, seated(a, 2), seated(ticket(2, 1), 1)), seated(a, 2), seated(ticket(2, 1), 1))
		}
	}
	// Exempt needs no Limit.
	for _, limit := range extremes {
		s := at(api.Exempt, limit, queue(100, ticket(1, 16), ticket(2, 99), ticket(3, -1)))
		who := []api.Ticket{seated(ticket(1, 16), 16), seated(ticket(2, 99), 16), seated(ticket(3, -1), 1)}
		dispatches(t, with(s, x), with(lanes(s, 1, 430, queue(430)), append([]api.Ticket{x}, who...)...), who...)
	}
}

// P23.4: an ID that one has, that two have, that one has who runs and one who waits, and that nobody has.
func TestDone(t *testing.T) {
	x, y, z := running(1, 4), running(-2, 0), running(math.MaxInt, 99)
	first, second := running(9, 1), running(9, 2)
	for _, kind := range kinds {
		s := at(kind, 3, queue(5, ticket(1, 1), ticket(9, 1), ticket(5, 1)), queue(6), queue(7, ticket(8, 1)))
		for _, s := range []api.State{s, quiet(s), lanes(s, 0, 9, queue(5), queue(6))} {
			done(t, with(s, x, y, z), 1, with(s, y, z), x)
			done(t, with(s, x, y, z), -2, with(s, x, z), y)
			done(t, with(s, x, y, z), math.MaxInt, with(s, x, y), z)
			done(t, with(s, x), 1, s, x)
			done(t, with(s, first, second), 9, with(s, second), first)
			done(t, with(s, second, x, first), 9, with(s, x, first), second)
			done(t, with(s, x, first, y, second), 9, with(s, x, y, second), first)
			done(t, with(s, first, first), 9, with(s, first), first)
			for _, id := range []int{5, 8, 2, -1, 0, 101, 201, 301, 1<<32 + 1, math.MinInt, math.MaxInt - 1} {
				doneNot(t, with(s, x, y, z), id)
				doneNot(t, s, id)
				doneNot(t, with(s, []api.Ticket{x}[:0]...), id)
			}
		}
	}
	doneNot(t, api.State{}, 0)
	done(t, with(api.State{}, api.Ticket{}), 0, api.State{}, api.Ticket{})
}

// P23.4: the first one of that ID in the lanes, trimmed then; not who runs.
func TestDrop(t *testing.T) {
	x, y, z := ticket(1, 5), ticket(2, 1), ticket(3, 99)
	first, second := ticket(9, 1), ticket(9, 2)
	for _, kind := range kinds {
		for _, run := range [][]api.Ticket{nil, {running(1, 3), running(7, 4)}} {
			s := with(at(kind, 3, queue(60, x, first), queue(70), queue(80, second, y, z)), run...)
			for _, s := range []api.State{s, quiet(s)} {
				drops(t, s, 1, lanes(s, 3, 100, queue(60, first), queue(70), queue(80, second, y, z)), x)
				drops(t, s, 2, lanes(s, 3, 100, queue(60, x, first), queue(70), queue(80, second, z)), y)
				drops(t, s, 3, lanes(s, 3, 100, queue(60, x, first), queue(70), queue(80, second, y)), z)
				drops(t, s, 9, lanes(s, 3, 100, queue(60, x), queue(70), queue(80, second, y, z)), first)
				shut := lanes(s, 1, 100, queue(60), queue(70, second, first), queue(80), queue(90, z))
				drops(t, shut, 9, lanes(s, 1, 100, queue(60), queue(70, first), queue(80), queue(90, z)), second)
				drops(t, shut, 3, lanes(s, 1, 100, queue(60), queue(70, second, first)), z)
				for _, id := range []int{7, 4, 0, -1, 103, 303, 1<<32 + 1, math.MinInt, math.MaxInt} {
					dropsNot(t, s, id)
					dropsNot(t, lanes(s, 0, 5, queue(1), queue(2)), id)
					dropsNot(t, lanes(s, 0, 5), id)
				}
			}
		}
	}
	dropsNot(t, api.State{}, 0)
}

// P23.4: Until below now, at it and above it: of nobody, of some and of all who wait; those who run are not asked.
func TestLate(t *testing.T) {
	x, y, z, w := until(3, 7), until(2, 4), until(1, 7), until(4, 9)
	run := running(5, 3)
	run.Until = math.MinInt
	for _, kind := range kinds {
		s := with(at(kind, 3, queue(60, x, y), queue(70), queue(80, w, z)), run)
		for _, s := range []api.State{s, quiet(s)} {
			for _, now := range []int{math.MinInt, -1, 0, 3} {
				late(t, s, now, s)
			}
			for _, now := range []int{4, 5, 6} {
				late(t, s, now, lanes(s, 3, 100, queue(60, x), queue(70), queue(80, w, z)), y)
			}
			for _, now := range []int{7, 8} {
				late(t, s, now, lanes(s, 3, 100, queue(60), queue(70), queue(80, w)), z, y, x)
			}
			for _, now := range []int{9, 10, math.MaxInt} {
				late(t, s, now, lanes(s, 3, 100, queue(60), queue(70), queue(80)), z, y, x, w)
			}
		}
	}
	for _, now := range extremes {
		late(t, api.State{}, now, api.State{})
		late(t, with(at(api.Queue, 3, queue(60)), run), now, with(at(api.Queue, 3, queue(60)), run))
		for _, moment := range extremes {
			u, s := until(1, moment), at(api.Queue, 3, queue(60, until(1, moment)), queue(70, until(1, math.MaxInt)))
			switch {
			case now == math.MaxInt:
				late(t, s, now, lanes(s, 2, 100, queue(60), queue(70)), u, until(1, math.MaxInt))
			case moment <= now:
				late(t, s, now, lanes(s, 2, 100, queue(60), queue(70, until(1, math.MaxInt))), u)
			default:
				late(t, s, now, s)
			}
		}
	}
}

// P23.4: by rising IDs; those of one ID in the order of the lanes, and in them. Of those of one ID only who is late goes.
func TestLateOfOneID(t *testing.T) {
	numbered := func(n int) api.Ticket { return api.Ticket{ID: 9, Width: 1, Since: n, Until: 5} }
	later := func(n int) api.Ticket { return api.Ticket{ID: 9, Width: 1, Since: n, Until: 6} }
	low, high := until(-9, 1), until(math.MaxInt, 2)
	s := at(api.Queue, 3, queue(60, high, numbered(8), numbered(1)), queue(70, numbered(5)), queue(80, numbered(2), low, numbered(3)))
	late(t, s, 5, lanes(s, 3, 100, queue(60), queue(70), queue(80)), low, numbered(8), numbered(1), numbered(5), numbered(2), numbered(3), high)
	s = at(api.Queue, 3, queue(60, later(1), numbered(2)), queue(70, later(3)), queue(80, numbered(4), later(5), numbered(6)))
	late(t, s, 5, lanes(s, 3, 100, queue(60, later(1)), queue(70, later(3)), queue(80, later(5))), numbered(2), numbered(4), numbered(6))
	// Many of a few IDs: not only a short list is told in this order.
	s = at(api.Queue, 3)
	var want [3][]api.Ticket
	for i := range 40 {
		l := queue(uint64(i))
		for k := range 5 {
			x := api.Ticket{ID: (i*7 + k*5) % 3, Width: i, Since: 10*i + k, Until: 1}
			l.Wait, want[x.ID] = append(l.Wait, x), append(want[x.ID], x)
		}
		s.Fair.Lanes = append(s.Fair.Lanes, l)
	}
	s.Fair.Open = 0
	late(t, s, 1, lanes(s, 0, 100), slices.Concat(want[:]...)...)
}

// P23.4: lanes are trimmed where somebody was late, and else not; an empty one ahead of one in which somebody waits stays.
func TestLateTrims(t *testing.T) {
	x, y := until(1, 5), until(2, 9)
	s := at(api.Queue, 3)
	for _, c := range []struct {
		open          int
		before, after []api.Lane
	}{
		{0, []api.Lane{queue(1, x)}, nil},
		{1, []api.Lane{queue(1, x)}, []api.Lane{queue(1)}},
		{5, []api.Lane{queue(1, x)}, []api.Lane{queue(1)}},
		{1, []api.Lane{queue(1), queue(2, x)}, []api.Lane{queue(1)}},
		{2, []api.Lane{queue(1), queue(2, x), queue(3)}, []api.Lane{queue(1), queue(2)}},
		{0, []api.Lane{queue(1, x), queue(2), queue(3, y), queue(4)}, []api.Lane{queue(1), queue(2), queue(3, y)}},
		{1, []api.Lane{queue(1, y), queue(2), queue(3, x), queue(4)}, []api.Lane{queue(1, y)}},
		{3, []api.Lane{queue(1, y), queue(2), queue(3, x), queue(4)}, []api.Lane{queue(1, y), queue(2), queue(3)}},
		{0, []api.Lane{queue(1, x, y), queue(2, x), queue(3)}, []api.Lane{queue(1, y)}},
		{math.MinInt, []api.Lane{queue(1, x), queue(2)}, nil},
		{math.MaxInt, []api.Lane{queue(1, x), queue(2)}, []api.Lane{queue(1), queue(2)}},
	} {
		before := lanes(s, c.open, 100, c.before...)
		_, gone := level.Late(before, 5)
		late(t, before, 5, lanes(s, c.open, 100, c.after...), gone...)
		if len(gone) == 0 {
			t.Errorf("nobody was late in %v", before)
		}
		late(t, before, 4, before)
		nobody := lanes(s, c.open, 100, queue(1), queue(2))
		late(t, nobody, 5, nobody)
	}
}

// P23.5: the Level and Quiet as told; who waits and runs, Limit, Bound and Demand stay.
func TestTurn(t *testing.T) {
	x, y := ticket(1, 1), ticket(2, 2)
	l := api.Level{Name: "b", Kind: api.Queue, Shares: 9, Lend: 8, Borrow: 7, Queues: 3, Hand: 2, Length: 6, Wait: 5, Guess: 20}
	for _, kind := range kinds {
		for _, limit := range extremes {
			s := with(at(kind, limit, queue(60, x), queue(70), queue(80, y), queue(90)), running(5, 3), running(5, 99))
			turned := s
			turned.Level, turned.Fair.Guess, turned.Fair.Length = l, 20, 6
			for _, s := range []api.State{s, quiet(s)} {
				// To fewer Queues: the last lane goes, in which nobody waits.
				turns(t, s, l, false, lanes(turned, 3, 100, queue(60, x), queue(70), queue(80, y)))
				few, many := l, l
				few.Queues, many.Queues = 1, 6
				wider, narrower := turned, turned
				narrower.Level, wider.Level = few, many
				turns(t, s, few, false, lanes(narrower, 1, 100, queue(60, x), queue(70), queue(80, y)))
				turns(t, s, many, false, lanes(wider, 6, 100, queue(60, x), queue(70), queue(80, y), queue(90), queue(0), queue(0)))
				// To another kind, and to Quiet: shut, with Guess and Length as they were.
				for _, other := range kinds {
					to := l
					to.Kind = other
					shut := lanes(s, 0, 100, queue(60, x), queue(70), queue(80, y))
					shut.Level, shut.Quiet = to, true
					turns(t, s, to, true, shut)
					if shut.Quiet = false; other != api.Queue {
						turns(t, s, to, false, shut)
					}
				}
			}
		}
	}
}

// P23.5: to and fro, with nobody waiting: lanes that come again come as new ones.
func TestTurnToAndFro(t *testing.T) {
	l := named(api.Queue)
	reject := named(api.Reject)
	s := level.Open(l)
	turns(t, s, l, false, s)
	away := s
	away.Quiet, away.Fair.Lanes, away.Fair.Open = true, nil, 0
	turns(t, s, l, true, away)
	turns(t, away, l, true, away)
	turns(t, away, l, false, s)
	other := away
	other.Quiet, other.Level = false, reject
	turns(t, s, reject, false, other)
	turns(t, other, l, false, s)
	turns(t, level.Open(reject), l, false, s)
	s = at(api.Queue, 3, queue(60), queue(70))
	turns(t, s, l, false, s)
	back := lanes(s, 2, 100, queue(0), queue(0))
	turns(t, level.Turn(s, l, true), l, false, back)
	turns(t, level.Turn(s, reject, false), l, false, back)
	// Somebody waited there: that lane stays, and goes on.
	s = at(api.Queue, 3, queue(60), queue(70, ticket(1, 1)))
	turns(t, level.Turn(s, l, true), l, false, s)
	turns(t, level.Turn(s, reject, false), l, false, s)
	one := l
	one.Queues = 1
	want := lanes(s, 1, 100, queue(60), queue(70, ticket(1, 1)))
	want.Level = one
	turns(t, s, one, false, want)
	turns(t, want, l, false, s)
	gone := lanes(want, 1, 100, queue(60))
	dispatches(t, want, with(gone, seated(ticket(1, 1), 1)), seated(ticket(1, 1), 1))
}

// P23.5: Queues, Guess and Length that fair.Shape refuses: shut; and those that it takes.
func TestTurnToAnyNumbers(t *testing.T) {
	x := ticket(1, 1)
	s := at(api.Queue, 3, queue(60), queue(70, x), queue(80))
	for _, open := range about(64) {
		for _, guess := range about(1000) {
			for _, length := range about(64) {
				l := named(api.Queue)
				l.Queues, l.Guess, l.Length = open, guess, length
				want := lanes(s, 0, 100, queue(60), queue(70, x))
				want.Level = l
				if open >= 1 && open <= 64 && guess >= 1 && guess <= 1000 && length >= 1 && length <= 64 {
					want.Fair = api.Fair{R: 100, Guess: guess, Length: length, Open: open, Lanes: []api.Lane{queue(60), queue(70, x)}}
					if open > 2 {
						want.Fair.Lanes = append(want.Fair.Lanes, queue(80))
						want.Fair.Lanes = append(want.Fair.Lanes, make([]api.Lane, open-3)...)
					}
				}
				turns(t, s, l, false, want)
				turns(t, quiet(s), l, false, want)
				shut := lanes(s, 0, 100, queue(60), queue(70, x))
				shut.Level = l
				turns(t, s, l, true, quiet(shut))
			}
		}
	}
}

// P23.2, P23.3, P23.5: those who wait since the level was a queue are dispatched in the other kind; till then nobody
// else comes in, but where all are exempt.
func TestWaitingSinceItWasAQueue(t *testing.T) {
	a, b := ticket(1, 2), ticket(2, 2)
	s := with(at(api.Queue, 3, queue(100, a), queue(100, b)), running(9, 3))
	reject := level.Turn(s, named(api.Reject), false)
	arrivesNot(t, reject, ticket(3, 1), []int{0}, api.ErrFull)
	reject, _, _ = level.Done(reject, 9)
	arrivesNot(t, reject, ticket(3, 1), []int{0}, api.ErrFull)
	reject, taken := level.Dispatch(reject)
	if !slices.Equal(taken, []api.Ticket{seated(a, 2)}) {
		t.Fatalf("%v, %v", reject, taken)
	}
	arrivesNot(t, reject, ticket(3, 1), []int{0}, api.ErrFull)
	reject, _, e := level.Drop(reject, 2)
	if e != api.OK || len(reject.Fair.Lanes) > 0 {
		t.Fatalf("%v, %v", reject, e)
	}
	arrives(t, reject, ticket(3, 1), []int{0}, with(reject, seated(a, 2), seated(ticket(3, 1), 1)))
	exempt := level.Turn(s, named(api.Exempt), false)
	arrives(t, exempt, ticket(3, 16), nil, with(exempt, running(9, 3), seated(ticket(3, 16), 16)))
	dispatches(t, exempt, with(lanes(exempt, 0, 120), running(9, 3), seated(a, 2), seated(b, 2)), seated(a, 2), seated(b, 2))
}
