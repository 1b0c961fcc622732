package level_test

import (
	"math"
	"slices"
	"testing"

	"usher/api"
	"usher/fair"
	"usher/level"
)

// What follows is the chapter once more, by other means: lists that are gone through one by one.

func wantBetween(low, n, high int) int {
	if n < low {
		return low
	}
	if n > high {
		return high
	}
	return n
}

func wantFits(s api.State, width int) (int, bool) {
	width = wantBetween(1, width, 16)
	if s.Level.Kind == 1 {
		return width, true
	}
	room := s.Limit
	for _, x := range s.Running {
		room -= wantBetween(0, x.Seats, 16)
	}
	if s.Limit > 0 && len(s.Running) == 0 {
		return wantBetween(1, width, room), true
	}
	if s.Limit > 0 && width <= room {
		return width, true
	}
	return 0, false
}

func wantRuns(s api.State) (seats int) {
	for _, x := range s.Running {
		seats += wantBetween(0, x.Seats, 16)
	}
	return seats
}

func wantWants(s api.State) int {
	seats := wantRuns(s)
	for _, l := range s.Fair.Lanes {
		for _, x := range l.Wait {
			seats += wantBetween(1, x.Width, 16)
		}
	}
	return seats
}

func wantWaiting(s api.State) (who []api.Ticket) {
	for _, l := range s.Fair.Lanes {
		who = append(who, l.Wait...)
	}
	return who
}

func wantArrive(s api.State, x api.Ticket, hand []int) (api.State, api.Errno) {
	if s.Quiet {
		return api.State{}, 9
	}
	s = copied(s)
	if s.Level.Kind == 3 {
		x.Seats = 0
		f, _, e := fair.Join(s.Fair, hand, x)
		if e != 0 {
			return api.State{}, e
		}
		s.Fair = f
		return s, 0
	}
	seats, ok := wantFits(s, x.Width)
	if !ok || s.Level.Kind != 1 && len(wantWaiting(s)) > 0 {
		return api.State{}, 7
	}
	s.Running = append(s.Running, seated(x, seats))
	return s, 0
}

func wantDispatch(s api.State) (api.State, []api.Ticket) {
	s = copied(s)
	f, x, ok := fair.Take(s.Fair)
	if !ok {
		return s, nil
	}
	seats, ok := wantFits(s, x.Width)
	if !ok {
		return s, nil
	}
	s.Fair, s.Running = f, append(s.Running, seated(x, seats))
	s, more := wantDispatch(s)
	return s, append([]api.Ticket{seated(x, seats)}, more...)
}

// wantDone is what is left, and who was done: one, or nobody.
func wantDone(s api.State, id int) (want api.State, who []api.Ticket) {
	want = s
	want.Running = nil
	for _, x := range s.Running {
		if x.ID == id && len(who) == 0 {
			who = append(who, x)
		} else {
			want.Running = append(want.Running, x)
		}
	}
	return want, who
}

func wantTrimmed(f api.Fair) api.Fair {
	last := len(f.Lanes) - 1
	if last < 0 || last < f.Open || len(f.Lanes[last].Wait) > 0 {
		return f
	}
	f.Lanes = f.Lanes[:last]
	return wantTrimmed(f)
}

// wantLate: those who are late are put one by one ahead of the first one who has a greater ID.
func wantLate(s api.State, now int) (want api.State, who []api.Ticket) {
	want = copied(s)
	for i, l := range s.Fair.Lanes {
		want.Fair.Lanes[i].Wait = nil
		for _, x := range l.Wait {
			if x.Until > now {
				want.Fair.Lanes[i].Wait = append(want.Fair.Lanes[i].Wait, x)
				continue
			}
			k := 0
			for k < len(who) && who[k].ID <= x.ID {
				k++
			}
			who = slices.Insert(who, k, x)
		}
	}
	if len(who) > 0 {
		want.Fair = wantTrimmed(want.Fair)
	}
	return want, who
}

func wantTurn(s api.State, l api.Level, quiet bool) api.State {
	f, e := fair.Shape(s.Fair, l.Queues, l.Guess, l.Length)
	if quiet || l.Kind != 3 || e != 0 {
		f = fair.Shut(s.Fair)
	}
	s.Level, s.Quiet, s.Fair = l, quiet, f
	return s
}

// number is a small one, or one of any size.
func (r *random) number(small int) int {
	return pick(r, r.below(small), r.below(small), r.below(small), r.below(small), pick(r, extremes[:]...), int(r.next()))
}

// ticket of any numbers, of few IDs, so that some are there twice.
func (r *random) ticket() api.Ticket {
	return api.Ticket{ID: r.number(6), Width: r.number(20) - 1, Seats: r.number(8) - 1, Since: r.number(10), Until: r.number(10)}
}

func (r *random) level() api.Level {
	return api.Level{
		Name: pick(r, "a", "b", ""), Kind: pick(r, 1, 2, 3, 3, 3, pick(r, kinds[:]...)), Shares: r.number(9), Lend: r.number(9), Borrow: r.number(9),
		Queues: pick(r, 1+r.below(6), 1+r.below(6), r.number(66)), Hand: r.number(9), Length: pick(r, 1+r.below(6), r.number(66)), Wait: r.number(9),
		Guess: pick(r, 1+r.below(20), r.number(1100)),
	}
}

func (r *random) fair() api.Fair {
	f := api.Fair{R: pick(r, uint64(r.below(100)), uint64(r.below(100)), r.next()), Guess: r.number(1100), Length: r.number(5), Open: r.number(6)}
	for range r.below(6) {
		l := queue(uint64(r.below(100)))
		for range pick(r, 0, 0, 1, 2, r.below(6)) {
			l.Wait = append(l.Wait, r.ticket())
		}
		f.Lanes = append(f.Lanes, l)
	}
	return f
}

// state of any numbers, whether it may come about or not.
func (r *random) state() api.State {
	s := api.State{
		Level: r.level(), Quiet: r.below(6) == 0, Limit: r.number(40), Bound: api.Bound{Nominal: r.number(9), Min: r.number(9), Max: r.number(9)},
		Demand: api.Demand{High: r.number(9), Smooth: r.number(9)}, Fair: r.fair(),
	}
	for range pick(r, 0, 0, 1, 2, r.below(6)) {
		s.Running = append(s.Running, r.ticket())
	}
	return s
}

func (r *random) hand() (hand []int) {
	for range r.below(4) {
		hand = append(hand, r.number(6)-1)
	}
	return hand
}

// all who are in a state, and these, by all their numbers but their Seats.
func all(s api.State, who ...api.Ticket) []api.Ticket {
	who = slices.Concat(wantWaiting(s), s.Running, who)
	for i := range who {
		who[i].Seats = 0
	}
	slices.SortFunc(who, func(a, b api.Ticket) int {
		return slices.Compare([]int{a.ID, a.Width, a.Since, a.Until}, []int{b.ID, b.Width, b.Since, b.Until})
	})
	return who
}

// follows from one state to the next one: but for Exempt the seats that run are at most Limit, or no more than they
// were; and nobody is lost, or there twice.
func follows(t *testing.T, before, after api.State, came, left []api.Ticket) {
	t.Helper()
	if n := wantRuns(after); after.Level.Kind != api.Exempt && n > after.Limit && n > wantRuns(before) {
		t.Fatalf("%v became %v: too many seats", before, after)
	}
	if !slices.Equal(all(before, came...), all(after, left...)) {
		t.Fatalf("%v and %v became %v and %v", before, came, after, left)
	}
}

// nobodyFits who is the next one.
func nobodyFits(t *testing.T, s api.State) {
	t.Helper()
	if i, waits := fair.Next(s.Fair); waits {
		if seats, ok := wantFits(s, s.Fair.Lanes[i].Wait[0].Width); ok {
			t.Fatalf("in lane %d somebody fits for %d: %v", i, seats, s)
		}
	}
}

// tries of what came and what was refused.
type tries struct{ arrived, full, none, taken, done, dropped, late, trimmed int }

func (n *tries) arrive(t *testing.T, r *random, s api.State) {
	t.Helper()
	x, hand := r.ticket(), r.hand()
	want, e := wantArrive(s, x, hand)
	if e != api.OK {
		arrivesNot(t, s, x, hand, e)
		if e == api.ErrFull {
			n.full++
		} else {
			n.none++
		}
		return
	}
	arrives(t, s, x, hand, want)
	got, _ := level.Arrive(s, x, hand)
	follows(t, s, got, []api.Ticket{x}, nil)
	n.arrived++
}

func (n *tries) dispatch(t *testing.T, s api.State) {
	t.Helper()
	want, who := wantDispatch(s)
	dispatches(t, s, want, who...)
	got, _ := level.Dispatch(s)
	follows(t, s, got, nil, nil)
	nobodyFits(t, got)
	n.taken += len(who)
}

func (n *tries) leave(t *testing.T, r *random, s api.State) {
	t.Helper()
	id := r.number(6)
	if want, who := wantDone(s, id); len(who) > 0 {
		done(t, s, id, want, who[0])
		follows(t, s, want, nil, who)
		n.done++
	} else {
		doneNot(t, s, id)
	}
	if f, x, ok := fair.Drop(s.Fair, id); ok {
		want := s
		want.Fair = f
		drops(t, s, id, want, x)
		follows(t, s, want, nil, []api.Ticket{x})
		n.dropped++
	} else {
		dropsNot(t, s, id)
	}
	now := r.number(10)
	want, who := wantLate(s, now)
	late(t, s, now, want, who...)
	follows(t, s, want, nil, who)
	n.late += len(who)
	n.trimmed += len(s.Fair.Lanes) - len(want.Fair.Lanes)
}

// P23.1 to P23.6: many states, held against the chapter said in another way.
func TestAgainstTheChapter(t *testing.T) {
	r, n := seed, tries{}
	for range 30000 {
		s, width, l, quiet := r.state(), r.number(20)-1, r.level(), r.below(3) == 0
		if want, ok := wantFits(s, width); ok {
			fits(t, s, width, want)
		} else {
			fitsNot(t, s, width)
		}
		counts(t, s, wantRuns(s), wantWants(s), len(wantWaiting(s))+len(s.Running) == 0)
		n.arrive(t, &r, s)
		n.dispatch(t, s)
		n.leave(t, &r, s)
		want := wantTurn(s, l, quiet)
		turns(t, s, l, quiet, want)
		follows(t, s, want, nil, nil)
		if t.Failed() {
			return
		}
	}
	if n.arrived < 5000 || n.full < 1000 || n.none < 1000 || n.taken < 5000 || n.done < 1000 || n.dropped < 1000 || n.late < 1000 || n.trimmed < 1000 {
		t.Errorf("%+v: too few", n)
	}
}

// P23.1, P23.2, P23.6: all small levels: kinds, limits, who runs, and who comes.
func TestAllSmallLevels(t *testing.T) {
	for _, kind := range kinds {
		for limit := -2; limit <= 36; limit++ {
			for first := -2; first <= 17; first++ {
				for width := -1; width <= 18; width++ {
					for _, s := range []api.State{at(kind, limit), with(at(kind, limit), running(1, first)), with(at(kind, limit), running(1, 16), running(2, first))} {
						want, ok := wantFits(s, width)
						if got, fits := level.Fits(s, width); got != want || fits != ok {
							t.Fatalf("Fits(%v, %d) = %d, %t; want %d, %t", s, width, got, fits, want, ok)
						}
						got, e := level.Arrive(s, ticket(3, width), []int{0})
						if after, f := wantArrive(s, ticket(3, width), []int{0}); e != f || !same(got, after) {
							t.Fatalf("Arrive(%v, %d) = %v, %v; want %v, %v", s, width, got, e, after, f)
						}
					}
				}
			}
		}
	}
}

// Rule 1: states of any numbers in which very many wait and run.
func TestManyWaitAndRun(t *testing.T) {
	l := queue(math.MaxUint64, slices.Repeat([]api.Ticket{ticket(1, 1)}, 1500)...)
	s := with(at(api.Queue, 3100, l, l), slices.Repeat([]api.Ticket{running(1, 1)}, 1500)...)
	s.Fair.Length = math.MaxInt
	counts(t, s, 1500, 4500, false)
	got, taken := level.Dispatch(s)
	if len(taken) != 1600 || len(got.Running) != 3100 || level.Runs(got) != 3100 || fair.Waiting(got.Fair) != 1400 {
		t.Errorf("%d taken, %d run", len(taken), len(got.Running))
	}
	if rest, gone := level.Late(s, math.MaxInt); len(gone) != 3000 || fair.Waiting(rest.Fair) != 0 || len(rest.Running) != 1500 {
		t.Errorf("%d late", len(gone))
	}
}
