package level_test

import (
	"slices"
	"testing"

	"usher/api"
	"usher/fair"
	"usher/level"
)

// Where somebody is who came to a level.
const (
	waits = 1 + iota
	runs
	out
)

// told is what became of a story's steps.
type told struct {
	came, refused, taken, done, dropped, late, turned, over, held int
}

// story of a level: who comes is given the next ID.
type story struct {
	s     api.State
	where []int // by IDs
	now   int
	told
}

// goOn with another state: but for Exempt the seats that run are at most Limit, or no more than they were; each one
// who came waits, runs or came out, just once.
func (y *story) goOn(t *testing.T, s api.State) {
	t.Helper()
	n, before := level.Runs(s), level.Runs(y.s)
	if s.Level.Kind != api.Exempt && n > s.Limit {
		if n > before {
			t.Fatalf("%v became %v: too many seats", y.s, s)
		}
		y.over++
	}
	y.s = s
	seen := make([]int, len(y.where))
	for _, x := range wantWaiting(s) {
		y.is(t, x, waits)
		seen[x.ID]++
	}
	for _, x := range s.Running {
		y.is(t, x, runs)
		seen[x.ID]++
	}
	for id, times := range seen {
		if times != 1 && y.where[id] != out || times > 0 && y.where[id] == out {
			t.Fatalf("%d is there %d times: %v", id, times, s)
		}
	}
	if level.Empty(s) != (len(s.Running) == 0 && fair.Waiting(s.Fair) == 0) || level.Wants(s) != n+fair.Seats(s.Fair) {
		t.Fatalf("%v: %d wanted, %t", s, level.Wants(s), level.Empty(s))
	}
}

// is somebody where that one should be? Who waits has no seats, who runs has some.
func (y *story) is(t *testing.T, x api.Ticket, where int) {
	t.Helper()
	if y.where[x.ID] != where || (where == waits) != (x.Seats == 0) {
		t.Fatalf("%v is at %d; want %d", x, where, y.where[x.ID])
	}
}

// leaves: that one was there, and is out now.
func (y *story) leaves(t *testing.T, x api.Ticket, from int) {
	t.Helper()
	y.is(t, x, from)
	y.where[x.ID] = out
}

func (y *story) arrive(t *testing.T, r *random) {
	t.Helper()
	x := api.Ticket{ID: len(y.where), Width: pick(r, 1, 1, 2, 1+r.below(api.MaxWidth), r.below(20)-1), Seats: 5, Since: y.now, Until: y.now + 1 + r.below(40)}
	s, e := level.Arrive(y.s, x, []int{r.below(4), r.below(4)})
	if e != api.OK {
		if y.s.Quiet != (e == api.ErrState) || !y.s.Quiet && y.s.Level.Kind == api.Exempt {
			t.Fatalf("Arrive(%v, %v): %v", y.s, x, e)
		}
		y.refused++
		y.goOn(t, y.s)
		return
	}
	y.came++
	if y.s.Level.Kind == api.Queue {
		y.where = append(y.where, waits)
	} else {
		y.where = append(y.where, runs)
	}
	y.goOn(t, s)
}

// dispatch: behind it nobody who fits is left as the next one.
func (y *story) dispatch(t *testing.T) {
	t.Helper()
	s, taken := level.Dispatch(y.s)
	if n := len(s.Running) - len(taken); n < 0 || !slices.Equal(s.Running[:n], y.s.Running) || !slices.Equal(s.Running[n:], taken) {
		t.Fatalf("Dispatch(%v) = %v, %v", y.s, s, taken)
	}
	for _, x := range taken {
		y.is(t, seated(x, 0), waits)
		y.where[x.ID] = runs
	}
	y.taken += len(taken)
	y.goOn(t, s)
	nobodyFits(t, s)
	if fair.Waiting(s.Fair) > 0 {
		y.held++
	}
	if again, more := level.Dispatch(s); len(more) > 0 || !same(again, s) {
		t.Fatalf("Dispatch(%v) = %v, %v", s, again, more)
	}
}

// done with whoever it is, if that one runs.
func (y *story) through(t *testing.T, id int) {
	t.Helper()
	s, x, e := level.Done(y.s, id)
	if ran := id >= 0 && id < len(y.where) && y.where[id] == runs; ran != (e == api.OK) || ran && x.ID != id {
		t.Fatalf("Done(%v, %d) = %v, %v", y.s, id, x, e)
	}
	if e == api.OK {
		y.leaves(t, x, runs)
		y.told.done++
		y.goOn(t, s)
	}
}

// drop whoever it is, if that one waits.
func (y *story) drop(t *testing.T, id int) {
	t.Helper()
	s, x, e := level.Drop(y.s, id)
	if waited := id >= 0 && id < len(y.where) && y.where[id] == waits; waited != (e == api.OK) || waited && x.ID != id {
		t.Fatalf("Drop(%v, %d) = %v, %v", y.s, id, x, e)
	}
	if e == api.OK {
		y.leaves(t, x, waits)
		y.dropped++
		y.goOn(t, s)
	}
}

// tick: behind it nobody waits who has waited too long.
func (y *story) tick(t *testing.T, ticks int) {
	t.Helper()
	y.now += ticks
	s, gone := level.Late(y.s, y.now)
	for i, x := range gone {
		if x.Until > y.now || i > 0 && gone[i-1].ID >= x.ID {
			t.Fatalf("late at %d: %v", y.now, gone)
		}
		y.leaves(t, x, waits)
	}
	y.late += len(gone)
	y.goOn(t, s)
	for _, x := range wantWaiting(s) {
		if x.Until <= y.now {
			t.Fatalf("%v waits at %d", x, y.now)
		}
	}
}

func (y *story) turn(t *testing.T, l api.Level, quiet bool) {
	t.Helper()
	s := level.Turn(y.s, l, quiet)
	if !slices.Equal(wantWaiting(s), wantWaiting(y.s)) || !slices.Equal(s.Running, y.s.Running) || s.Limit != y.s.Limit {
		t.Fatalf("Turn(%v, %v, %t) = %v", y.s, l, quiet, s)
	}
	y.turned++
	y.goOn(t, s)
}

// mostly: this kind at most times.
func (r *random) mostly(kind int) api.Level {
	l := r.level()
	l.Kind = pick(r, kind, kind, kind, pick(r, kinds[:]...))
	return l
}

// tell a story of many steps of one kind of level, with other limits between them; behind it all who are left come out.
func tell(t *testing.T, r *random, kind int, turns bool) told {
	t.Helper()
	y := story{s: level.Open(api.Level{Kind: kind, Queues: 1 + r.below(4), Guess: 1 + r.below(20), Length: 1 + r.below(8)})}
	for range 200 {
		switch n := r.below(40); {
		case n < 18:
			y.arrive(t, r)
		case n < 26:
			y.dispatch(t)
		case n < 32:
			y.through(t, len(y.where)-r.below(30))
		case n < 34:
			y.drop(t, len(y.where)-r.below(10))
		case n < 36:
			y.tick(t, r.below(4))
		case n < 38:
			// Not told to goOn: a limit that falls leaves those who run.
			y.s.Limit = pick(r, r.below(40), r.below(40), r.below(10)-2)
		case turns:
			y.turn(t, r.mostly(kind), r.below(4) == 0)
		}
	}
	y.end(t)
	return y.told
}

// end of a story: nobody comes any more, and each one who runs is done; then all come out.
func (y *story) end(t *testing.T) {
	t.Helper()
	y.turn(t, y.s.Level, true)
	y.s.Limit = 1
	for range len(y.where) + 1 {
		for _, x := range y.s.Running {
			y.through(t, x.ID)
		}
		y.dispatch(t)
	}
	if !level.Empty(y.s) || len(y.s.Fair.Lanes) > 0 || level.Wants(y.s) != 0 {
		t.Fatalf("left: %v", y.s)
	}
	if y.told.done+y.dropped+y.late != y.came || slices.ContainsFunc(y.where, func(where int) bool { return where != out }) {
		t.Fatalf("%+v: %v", y.told, y.where)
	}
}

// P23.6: over many steps of each kind, with turns to other ones and without.
func TestManySteps(t *testing.T) {
	r := seed
	for _, kind := range []int{api.Exempt, api.Reject, api.Queue, 7} {
		for _, turns := range []bool{false, true} {
			var n told
			for range 120 {
				m := tell(t, &r, kind, turns)
				n = told{n.came + m.came, n.refused + m.refused, n.taken + m.taken, n.done + m.done, n.dropped + m.dropped, n.late + m.late, n.turned + m.turned, n.over + m.over, n.held + m.held}
			}
			if n.came < 1000 || n.done < 500 || turns && n.turned < 500 || (turns || kind != api.Exempt) && (n.refused < 200 || n.over < 200) {
				t.Errorf("kind %d: %+v", kind, n)
			}
			if kind == api.Queue && (n.taken < 1000 || n.dropped < 100 || n.late < 100 || n.held < 500) {
				t.Errorf("kind %d: %+v", kind, n)
			}
		}
	}
}

// P23.6: a limit that fell: what is beyond it never grows, and nobody is dispatched till it is used up.
func TestALimitThatFell(t *testing.T) {
	s := with(at(api.Queue, 10, queue(100, ticket(4, 1), ticket(5, 1))), running(1, 4), running(2, 4), running(3, 2))
	s.Limit = 4
	for _, id := range []int{3, 2} {
		next, taken := level.Dispatch(s)
		if len(taken) > 0 || !same(next, s) {
			t.Fatalf("Dispatch(%v) = %v, %v", s, next, taken)
		}
		s, _, _ = level.Done(s, id)
	}
	if s, taken := level.Dispatch(s); len(taken) > 0 || level.Runs(s) != 4 {
		t.Errorf("%v, %v", s, taken)
	}
	s.Limit = 5
	if s, taken := level.Dispatch(s); len(taken) != 1 || level.Runs(s) != 5 {
		t.Errorf("%v, %v", s, taken)
	}
	// As a level that does not let wait: nobody comes in.
	s = with(at(api.Reject, 4), running(1, 4), running(2, 1))
	arrivesNot(t, s, ticket(9, 1), nil, api.ErrFull)
	arrivesNot(t, with(s, running(1, 4)), ticket(9, 1), nil, api.ErrFull)
	arrives(t, with(s, running(2, 1)), ticket(9, 3), nil, with(s, running(2, 1), seated(ticket(9, 3), 3)))
}
