package ctl_test

import (
	"slices"
	"testing"

	"usher/api"
	"usher/book"
	"usher/ctl"
	"usher/level"
)

// story of a controller: all that was told, and what is known of each request by that alone.
type story struct {
	c      api.Ctl
	told   []api.Told
	phase  map[int]int // by IDs; who waits is known by having come
	starts map[int]int
	ends   map[int]int
	errs   int
	loads  int
	full   int
	quiet  int // events behind which there was a quiet state
	moved  int // events by which limits changed
}

func opened(t *testing.T, x api.Table) *story {
	t.Helper()
	return &story{c: opens(t, x), phase: map[int]int{}, starts: map[int]int{}, ends: map[int]int{}}
}

// goOn by an event: an error changes nothing; all that the chapter says of each time holds behind it.
func (y *story) goOn(t *testing.T, x event) {
	t.Helper()
	before := copied(y.c)
	next, told, e := x.at(y.c)
	if !same(y.c, before) {
		t.Fatalf("%v changed %v to %v", x, before, y.c)
	}
	if e != api.OK {
		if !zero(next) || len(told) > 0 {
			t.Fatalf("%v of %v: %v, %v, %v", x, y.c, next, told, e)
		}
		if y.errs++; e == api.ErrFull {
			y.full++
		}
		return
	}
	holds(t, next)
	y.c, y.told = next, append(y.told, told...)
	if x.kind == api.New {
		y.phase[x.id] = api.Waits
	}
	for i, z := range told {
		y.follows(t, x, i, z)
	}
	y.agrees(t)
	y.count(x, before)
}

// follows: each request is started once at most, and comes to one end at most, from where it was; and each thing told is
// told in its form.
func (y *story) follows(t *testing.T, x event, i int, z api.Told) {
	t.Helper()
	if z.At != y.c.Now {
		t.Fatalf("%v at %d", z, y.c.Now)
	}
	form := api.Told{At: z.At, Kind: z.Kind, ID: z.ID, Level: z.Level}
	from := api.Waits
	switch z.Kind {
	case api.Started:
		form.Seats = z.Seats
		y.starts[z.ID]++
	case api.Refused:
		form.Why = z.Why
	case api.Ended:
		from = api.Runs
	case api.Loaded:
		form = api.Told{At: z.At, Kind: api.Loaded, Digest: y.c.Table.Digest}
	}
	if z != form || !mayTell(x.kind, z.Kind, i) {
		t.Fatalf("%v is told as the %dth of %v", z, i, x)
	}
	if z.Kind == api.Loaded {
		return
	}
	if y.phase[z.ID] != from || y.starts[z.ID] > 1 {
		t.Fatalf("%v is told of who is in %d", z, y.phase[z.ID])
	}
	y.phase[z.ID] = api.Runs
	if z.Kind != api.Started {
		y.phase[z.ID] = api.Over
		y.ends[z.ID]++
	}
	if s, ok := book.Find(y.c.Book, z.ID); !ok || s.Level != z.Level {
		t.Fatalf("%v of %v", z, s)
	}
}

// mayTell: does such an event tell that as its ith?
func mayTell(event, kind, i int) bool {
	switch kind {
	case api.Started:
		return true
	case api.Late:
		return event == api.Tick
	case api.Refused:
		return event == api.New && i == 0
	case api.Ended:
		return event == api.Done && i == 0
	case api.Gone:
		return event == api.Drop && i == 0
	}
	return kind == api.Loaded && event == api.Load && i == 0
}

// agrees: what was told is what the book says.
func (y *story) agrees(t *testing.T) {
	t.Helper()
	if len(y.c.Book) != len(y.phase) {
		t.Fatalf("%d entries, %d came", len(y.c.Book), len(y.phase))
	}
	for _, x := range y.c.Book {
		if y.phase[x.ID] != x.Phase || y.ends[x.ID] > 1 {
			t.Fatalf("%v was told to be in %d", x, y.phase[x.ID])
		}
	}
}

func (y *story) count(x event, before api.Ctl) {
	if x.kind == api.Load {
		y.loads++
	}
	if slices.ContainsFunc(y.c.Levels, func(s api.State) bool { return s.Quiet }) {
		y.quiet++
	}
	for _, s := range before.Levels {
		if other, ok := ctl.Find(y.c, s.Level.Name); ok && other.Limit != s.Limit {
			y.moved++
			return
		}
	}
}

// end: nobody comes any more, who runs is done at once; then each one is over within as many ticks as anyone may wait,
// and no quiet level is left.
func (y *story) end(t *testing.T) {
	t.Helper()
	for range 25 {
		for _, s := range y.c.Levels {
			for _, x := range s.Running {
				y.goOn(t, event{kind: api.Done, id: x.ID})
			}
		}
		y.goOn(t, event{kind: api.Tick})
	}
	for _, s := range y.c.Levels {
		for _, x := range s.Running {
			y.goOn(t, event{kind: api.Done, id: x.ID})
		}
	}
	for _, s := range y.c.Levels {
		if !level.Empty(s) || s.Quiet {
			t.Fatalf("left: %v", s)
		}
	}
	if waits, runs, over := book.Count(y.c.Book); waits+runs > 0 || over != len(y.ends) {
		t.Fatalf("%d wait, %d run, %d of %d are over", waits, runs, over, len(y.ends))
	}
}

// tell a story of so many events, and of some tables.
func tell(t *testing.T, r *random, events int) *story {
	t.Helper()
	var tables []api.Table
	for range 2 + r.below(6) {
		tables = append(tables, r.table(t))
	}
	y, loads := opened(t, tables[0]), pick(r, 10, 30, 200)
	for range events {
		y.goOn(t, r.event(y.c, tables, loads))
	}
	y.end(t)
	return y
}

// P25.6: at each time of long stories; told twice they are the same.
func TestLongStories(t *testing.T) {
	r := seed
	var errs, loads, full, quiet, moved int
	kinds := map[int]int{}
	for range 60 {
		from := r
		y := tell(t, &r, 500)
		again := tell(t, &from, 500)
		if !slices.Equal(y.told, again.told) || !same(y.c, again.c) || r != from {
			t.Fatal("told twice it is another story")
		}
		errs, loads, full, quiet, moved = errs+y.errs, loads+y.loads, full+y.full, quiet+y.quiet, moved+y.moved
		for _, z := range y.told {
			kinds[z.Kind]++
		}
	}
	if errs < 1000 || loads < 500 || full < 5 || quiet < 1000 || moved < 500 {
		t.Errorf("%d errors, %d loads, %d full, quiet %d times, limits moved %d times", errs, loads, full, quiet, moved)
	}
	for kind, least := range map[int]int{api.Started: 3000, api.Refused: 1000, api.Late: 300, api.Gone: 300, api.Ended: 3000, api.Loaded: 500} {
		if kinds[kind] < least {
			t.Errorf("told %d: %d times", kind, kinds[kind])
		}
	}
}

// P25.6: in what order other controllers are asked does not matter: two stories told in turns are those told alone.
func TestTwoStoriesInTurns(t *testing.T) {
	r := seed
	for range 10 {
		a, b := r, r
		b.next()
		x, y := tell(t, &a, 150), tell(t, &b, 150)
		a, b = r, r
		b.next()
		both := [2]*random{&a, &b}
		var tables [2][]api.Table
		var stories [2]*story
		var loads [2]int
		for i, s := range both {
			for range 2 + s.below(6) {
				tables[i] = append(tables[i], s.table(t))
			}
			stories[i], loads[i] = opened(t, tables[i][0]), pick(s, 10, 30, 200)
		}
		for range 150 {
			for i, s := range both {
				stories[i].goOn(t, s.event(stories[i].c, tables[i], loads[i]))
			}
		}
		stories[0].end(t)
		stories[1].end(t)
		if !slices.Equal(stories[0].told, x.told) || !slices.Equal(stories[1].told, y.told) {
			t.Fatal("told in turns they are other stories")
		}
		r.next()
	}
}

// P25.6: a level that a total of 1 leaves without seats lets wait, and no more.
func TestNoSeats(t *testing.T) {
	c := opens(t, made(t, "total 1, period 1", "a 0 0 0 queue 2 1 4 3 5", "b 0 0 0 reject", "catch-all 1 0 0 reject"))
	for i := range 3 {
		c = arrives(t, c, i, to("a", 1+i))
	}
	refuses(t, c, 9, to("b", 1), "b", api.ErrFull)
	for range 2 {
		c = ticks(t, c)
	}
	c = arrives(t, c, 5, to("", 9), started(2, 5, "catch-all", 1))
	c = ticks(t, c, late(3, 0, "a"), late(3, 1, "a"), late(3, 2, "a"))
	limits(t, c, "a 0 0 0 0", "b 0 0 0 0", "catch-all 1 1 1 1", "exempt 0 0 0 0")
}
