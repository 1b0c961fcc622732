package ctl_test

import (
	"math"
	"reflect"
	"slices"
	"testing"

	"usher/api"
	"usher/ctl"
)

// roomy: the same list with spare room, in which something stands.
func roomy[T any](list []T, spare T) []T {
	whole := append(slices.Clone(list), spare, spare, spare)
	return slices.Clip(whole)[:len(list)]
}

// wholeCtl is a controller with all that it holds, and with the spare room of it, but for the table.
func wholeCtl(c api.Ctl) api.Ctl {
	c.Book = c.Book[:cap(c.Book)]
	c.Levels = slices.Clone(c.Levels[:cap(c.Levels)])
	for i, s := range c.Levels {
		s.Running = s.Running[:cap(s.Running)]
		s.Fair.Lanes = slices.Clone(s.Fair.Lanes[:cap(s.Fair.Lanes)])
		for k, l := range s.Fair.Lanes {
			s.Fair.Lanes[k].Wait = l.Wait[:cap(l.Wait)]
		}
		c.Levels[i] = s
	}
	return copied(c)
}

// withRoom: the same controller with spare room all over.
func withRoom(c api.Ctl) api.Ctl {
	c = copied(c)
	x := api.Ticket{ID: -5, Width: -5, Seats: -5, Since: -5, Until: -5}
	c.Book = roomy(c.Book, api.Entry{ID: -5, Phase: -5, Level: "spare"})
	for i, s := range c.Levels {
		for k, l := range s.Fair.Lanes {
			s.Fair.Lanes[k].Wait = roomy(l.Wait, x)
		}
		s.Fair.Lanes = roomy(s.Fair.Lanes, api.Lane{Start: 5, Wait: []api.Ticket{x}})
		s.Running = roomy(s.Running, x)
		c.Levels[i] = s
	}
	c.Levels = roomy(c.Levels, api.State{Level: api.Level{Name: "spare"}, Running: []api.Ticket{x}})
	return c
}

// spoil all that a controller holds but for the table, with its spare room.
func spoil(c api.Ctl) {
	for i := range c.Book[:cap(c.Book)] {
		c.Book[:cap(c.Book)][i] = api.Entry{ID: -77, Phase: -77, Level: "spoiled"}
	}
	for i := range c.Levels[:cap(c.Levels)] {
		spoilState(&c.Levels[:cap(c.Levels)][i])
	}
}

func spoilState(s *api.State) {
	spoilTickets(s.Running)
	lanes := s.Fair.Lanes[:cap(s.Fair.Lanes)]
	for i := range lanes {
		spoilTickets(lanes[i].Wait)
		lanes[i] = api.Lane{Start: 77}
	}
	*s = api.State{Limit: -77}
}

func spoilTickets(list []api.Ticket) {
	whole := list[:cap(list)]
	for i := range whole {
		whole[i] = api.Ticket{ID: -77, Width: -77, Seats: -77, Since: -77, Until: -77}
	}
}

func spoilTold(list []api.Told) {
	whole := list[:cap(list)]
	for i := range whole {
		whole[i] = api.Told{At: -77, Kind: -77}
	}
}

// busy: a controller in which some run, some wait and one level is quiet, and events of each kind, of each end.
func busy(t *testing.T) (api.Ctl, []event) {
	t.Helper()
	x := made(t, "total 8, period 2", "a 1 50 all queue 2 1 4 3 5", "b 1 0 0 reject", "d 0 0 0 queue 1 1 4 3 5", "e exempt", "f 1 0 0 queue 3 2 2 9 5")
	y := made(t, "total 9, period 2", "a 1 50 all queue 3 1 4 3 5", "b 1 0 0 queue 1 1 1 1 1", "e exempt", "g exempt", "f 1 0 0 queue 3 2 2 9 5")
	c := opens(t, x)
	for i, q := range []api.Request{to("a", 1), to("b", 1), to("e", 1), to("f", 1), to("a", 1), to("a", 1, "v"), to("f", 2), to("f", 1, "v"), to("f", 1), to("b", 1), to("d", 1), to("", 1)} {
		next, _, e := ctl.Arrive(c, i, q)
		if e != api.OK {
			t.Fatal(e)
		}
		c = next
	}
	c = ticks(t, loads(t, c, y))
	if !state(t, c, "d").Quiet || state(t, c, "f").Quiet {
		t.Fatal(c)
	}
	events := []event{
		{kind: api.Tick}, {kind: api.Load, table: x}, {kind: api.Load, table: y}, {kind: api.Load, table: nothing(t)}, {kind: api.Drop, id: 10}, {kind: api.Drop, id: 77},
		{kind: api.New, id: 50, request: to("a", 1)}, {kind: api.New, id: 50, request: to("b", 1)}, {kind: api.New, id: 50, request: to("e", 1)},
		{kind: api.New, id: 50, request: to("", 1)}, {kind: api.New, id: 50, request: to("f", 1)}, {kind: api.New, id: -1}, {kind: api.New, id: 3},
	}
	for _, z := range c.Book {
		events = append(events, event{kind: api.Done, id: z.ID}, event{kind: api.Drop, id: z.ID})
	}
	return c, events
}

// Rule 3: what is handed in stays as it was, with its spare room; rule 4: asked again it is the same.
func TestNothingIsChanged(t *testing.T) {
	c, events := busy(t)
	for _, x := range events {
		first, told, e := x.at(c)
		handed := withRoom(c)
		groups := roomy(x.request.Groups, "spare")
		x.request.Groups = groups
		before, request, levels, schemas := wholeCtl(handed), slices.Clone(groups[:cap(groups)]), slices.Clone(x.table.Config.Levels), slices.Clone(x.table.Config.Schemas)
		next, again, f := x.at(handed)
		if e != f || !slices.Equal(told, again) || !same(first, next) {
			t.Errorf("%v: %v, %v, %v; at first %v, %v, %v", x, next, again, f, first, told, e)
		}
		if !same(wholeCtl(handed), before) || !slices.Equal(groups[:cap(groups)], request) {
			t.Errorf("%v left %v of %v", x, wholeCtl(handed), before)
		}
		if !slices.Equal(x.table.Config.Levels, levels) || !reflect.DeepEqual(x.table.Config.Schemas, schemas) {
			t.Errorf("%v changed the table", x)
		}
	}
}

// Rule 3: what is answered is new memory, and is not kept: what is written to it, or to what was handed in, changes nothing else.
func TestAnswersAreNewMemory(t *testing.T) {
	c, events := busy(t)
	for _, x := range events {
		// Written to what is answered.
		handed := withRoom(c)
		before := wholeCtl(handed)
		next, told, e := x.at(handed)
		want, wantTold := copied(next), slices.Clone(told)
		spoil(next)
		spoilTold(told)
		if !same(wholeCtl(handed), before) {
			t.Errorf("%v: what is answered is memory of what was handed in", x)
		}
		// Written to what was handed in.
		next, told, f := x.at(handed)
		spoil(handed)
		if e != f || !same(next, want) || !slices.Equal(told, wantTold) {
			t.Errorf("%v: what is answered hangs on what was answered, or handed in: %v; want %v", x, next, want)
		}
		// Its lists share nothing with one another.
		for i := range next.Levels {
			other := copied(next)
			spoilState(&next.Levels[i])
			next.Levels[i] = other.Levels[i]
			if !same(next, other) {
				t.Errorf("%v: states share memory", x)
			}
		}
	}
}

// Rule 3: what Find answers is new memory, and so is what New does but for the table.
func TestFindAndNewAnswerNewMemory(t *testing.T) {
	c, _ := busy(t)
	handed := withRoom(c)
	before := wholeCtl(handed)
	for _, s := range c.Levels {
		found := state(t, handed, s.Level.Name)
		spoilState(&found)
		if !same(wholeCtl(handed), before) {
			t.Fatalf("Find(%q) answers memory of what was handed in", s.Level.Name)
		}
		found = state(t, handed, s.Level.Name)
		other := copied(handed)
		spoil(handed)
		if !sameState(found, s) {
			t.Fatalf("Find(%q) answers memory of what was handed in", s.Level.Name)
		}
		handed = withRoom(other)
		before = wholeCtl(handed)
	}
	x := c.Table
	first := ctl.New(x)
	want := copied(first)
	spoil(ctl.New(x))
	if !same(first, want) || !same(ctl.New(x), want) {
		t.Error("New keeps what it answers")
	}
}

// The chapter's head: a table is kept as it is, not copied.
func TestTablesAreKept(t *testing.T) {
	c, events := busy(t)
	for _, x := range events {
		next, _, e := x.at(c)
		if e != api.OK {
			continue
		}
		want := c.Table
		if x.kind == api.Load {
			want = x.table
		}
		isKept(t, next, want)
	}
	x := nothing(t)
	isKept(t, ctl.New(x), x)
}

func isKept(t *testing.T, c api.Ctl, x api.Table) {
	t.Helper()
	if &c.Table.Config.Levels[0] != &x.Config.Levels[0] || &c.Table.Config.Schemas[0] != &x.Config.Schemas[0] || c.Table.Digest != x.Digest {
		t.Errorf("%v; want %v", c.Table, x)
	}
}

// number is a small one, or one of any size.
func (r *random) number(small int) int {
	return pick(r, r.below(small), r.below(small), r.below(small), pick(r, extremes[:]...))
}

// any controller, whether it may come about or not.
func (r *random) any(t *testing.T) api.Ctl {
	c := api.Ctl{Table: r.table(t), Now: r.number(20)}
	if r.below(3) == 0 {
		conf := &c.Table.Config
		conf.Total, conf.Period, conf.PerSeat, conf.Most = r.number(20), r.number(4), r.number(4), r.number(4)
	}
	tickets := func() (list []api.Ticket) {
		for range r.below(4) {
			list = append(list, api.Ticket{ID: r.number(12), Width: r.number(9), Seats: r.number(9), Since: r.number(9), Until: r.number(30)})
		}
		return list
	}
	for range r.below(7) {
		s := api.State{
			Level: api.Level{Name: pick(r, names[:]...), Kind: r.number(5), Shares: r.number(5), Lend: r.number(5), Borrow: r.number(5), Queues: r.number(5), Hand: r.number(3), Length: r.number(5), Wait: r.number(5), Guess: r.number(5)},
			Quiet: r.below(3) == 0, Limit: r.number(9), Bound: api.Bound{Nominal: r.number(9), Min: r.number(9), Max: r.number(9)},
			Demand: api.Demand{High: r.number(9), Smooth: r.number(9)},
			Fair:   api.Fair{R: r.next(), Guess: r.number(9), Length: r.number(9), Open: r.number(5)}, Running: tickets(),
		}
		for range r.below(4) {
			s.Fair.Lanes = append(s.Fair.Lanes, api.Lane{Start: r.next(), Wait: tickets()})
		}
		c.Levels = append(c.Levels, s)
	}
	for range r.below(9) {
		c.Book = append(c.Book, api.Entry{ID: r.number(12), Phase: r.number(5), Level: pick(r, names[:]...)})
	}
	return c
}

// Rules 1, 2, 3 and 5: of any controllers: each call ends, an error comes with nothing, and what is handed in stays as it was.
func TestAnyControllers(t *testing.T) {
	r := seed
	oks := 0
	for range 4000 {
		c := withRoom(r.any(t))
		x := event{kind: 1 + r.below(5), id: r.number(12), request: r.request(c), table: r.table(t)}
		before := wholeCtl(c)
		next, told, e := x.at(c)
		if !same(wholeCtl(c), before) {
			t.Fatalf("%v left %v of %v", x, c, before)
		}
		if e != api.OK && (!zero(next) || len(told) > 0) {
			t.Fatalf("%v: %v, %v, %v", x, next, told, e)
		}
		if e == api.OK {
			oks++
		}
		ctl.Find(c, pick(&r, names[:]...))
		ctl.New(c.Table)
	}
	for _, now := range []int{math.MinInt, math.MaxInt} {
		for kind := 1; kind <= 5; kind++ {
			event{kind: kind}.at(api.Ctl{Now: now})
		}
	}
	if oks < 1000 {
		t.Errorf("%d went well", oks)
	}
}
