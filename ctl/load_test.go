package ctl_test

import (
	"fmt"
	"slices"
	"testing"

	"usher/api"
	"usher/ctl"
	"usher/level"
)

// P25.2: the same table once more: it is told, and nothing else comes about.
func TestLoadTheSame(t *testing.T) {
	x := made(t, "total 9, period 2", "e exempt", "q 1 50 50 queue 3 1 3 5 4", "r 1 0 0 reject")
	c := opens(t, x)
	c = loads(t, c, x)
	if !same(c, ctl.New(x)) {
		t.Errorf("%v", c)
	}
	for i, name := range []string{"e", "q", "r", "exempt", ""} {
		if name == "" {
			name = "catch-all"
		}
		c = arrives(t, c, i, to(name, 1), started(0, i, name, 1))
	}
	c = arrives(t, c, 7, to("q", 9))
	c = ticks(t, ticks(t, ticks(t, c)))
	again := loads(t, c, x)
	if !same(c, again) {
		t.Errorf("%v; want %v", again, c)
	}
	// The order of a configuration's levels does not matter, not even that of a table made by hand.
	y := made(t, "total 9, period 2", "r 1 0 0 reject", "q 1 50 50 queue 3 1 3 5 4", "e exempt")
	limits(t, loads(t, c, y), "catch-all 7 7 7 9", "e 0 0 0 0", "exempt 0 0 0 0", "q 1 1 1 1", "r 1 1 1 1")
	x.Config.Levels = slices.Clone(x.Config.Levels)
	slices.Reverse(x.Config.Levels)
	again = loads(t, c, x)
	again.Table = c.Table
	if !same(c, again) {
		t.Errorf("%v; want %v", again, c)
	}
	x.Config.Levels = append(x.Config.Levels, api.Level{Name: "q", Kind: api.Reject}, api.Level{Name: "s", Kind: api.Reject}, api.Level{Name: "s"})
	if twice := loads(t, c, x); len(twice.Levels) != 6 || state(t, twice, "s").Level.Kind != api.Reject {
		t.Errorf("%v", twice.Levels)
	}
}

// P25.2: a level more is opened, one less is taken away where nobody is there; seats are shared.
func TestLoadMoreAndLess(t *testing.T) {
	x := made(t, "total 12", "a 1 0 0 reject", "c 1 0 0 reject", "catch-all 1 0 0 reject")
	y := made(t, "total 12", "a 1 0 0 reject", "b 1 0 0 queue 2 1 3 5 4", "c 1 0 0 reject", "catch-all 1 0 0 reject", "z exempt")
	c := opens(t, x)
	limits(t, c, "a 4 4 4 4", "c 4 4 4 4", "catch-all 4 4 4 4", "exempt 0 0 0 0")
	c.Now = 33
	c = arrives(t, c, 1, to("a", 4), started(33, 1, "a", 4))
	c = arrives(t, c, 2, to("b", 1), started(33, 2, "catch-all", 1))
	c = loads(t, c, y)
	limits(t, c, "a 3 3 3 3", "b 3 3 3 3", "c 3 3 3 3", "catch-all 3 3 3 3", "exempt 0 0 0 0", "z 0 0 0 0")
	stand(t, c, "a", []int{1}, nil)
	fresh := level.Open(y.Config.Levels[1])
	fresh.Limit, fresh.Bound = 3, api.Bound{Nominal: 3, Min: 3, Max: 3}
	if s := state(t, c, "b"); !sameState(s, fresh) {
		t.Errorf("%v; want %v", s, fresh)
	}
	// Who comes now goes where this table says; who was there stays where it is.
	c = arrives(t, c, 3, to("b", 1), started(33, 3, "b", 1))
	phase(t, c, 2, api.Runs, "catch-all")
	c = done(t, c, 3, ended(33, 3, "b"))
	c = loads(t, c, x)
	limits(t, c, "a 4 4 4 4", "c 4 4 4 4", "catch-all 4 4 4 4", "exempt 0 0 0 0")
	stateNot(t, c, "b")
	stateNot(t, c, "z")
	if c.Now != 33 || len(c.Book) != 3 || c.Table.Digest != x.Digest {
		t.Errorf("%v", c)
	}
}

// P25.2: another total, other numbers: those who may go then start, level by level, behind what tells the table.
func TestLoadDispatchesAll(t *testing.T) {
	levels := []string{"a 1 0 0 queue 1 1 9 9 4", "b 1 0 0 queue 1 1 9 9 4", "catch-all 1 0 0 reject"}
	c := opens(t, made(t, "total 3", levels...))
	c = arrives(t, c, 1, to("b", 1), started(0, 1, "b", 1))
	c = arrives(t, c, 2, to("a", 1), started(0, 2, "a", 1))
	for i := range 8 {
		c = arrives(t, c, 19-i, to([]string{"b", "a"}[i%2], 1))
	}
	c = ticks(t, c)
	c = loads(t, c, made(t, "total 9", levels...), started(1, 18, "a", 1), started(1, 16, "a", 1), started(1, 19, "b", 1), started(1, 17, "b", 1))
	// A limit that falls leaves those who run.
	c = loads(t, c, made(t, "total 3", levels...))
	stand(t, c, "a", []int{2, 18, 16}, []int{14, 12})
	for _, id := range []int{2, 18} {
		c = done(t, c, id, ended(1, id, "a"))
	}
	c = done(t, c, 16, ended(1, 16, "a"), started(1, 14, "a", 1))
	stand(t, c, "b", []int{1, 19, 17}, []int{15, 13})
}

// P25.2: a level of another kind.
func TestLoadQueueToExempt(t *testing.T) {
	c := opens(t, made(t, "total 4", "q 1 0 0 queue 1 1 9 9 4", "catch-all 1 0 0 reject"))
	c = arrives(t, c, 1, to("q", 2), started(0, 1, "q", 2))
	for i, width := range []int{2, 16, 1} {
		c = arrives(t, c, 2+i, to("q", width))
	}
	demands(t, c, "q", 21, 0)
	exempt := made(t, "total 4", "q exempt", "catch-all 1 0 0 reject")
	c = loads(t, c, exempt, started(0, 2, "q", 2), started(0, 3, "q", 16), started(0, 4, "q", 1))
	limits(t, c, "catch-all 4 4 4 4", "exempt 0 0 0 0", "q 0 0 0 0")
	c = arrives(t, c, 5, to("q", 16), started(0, 5, "q", 16))
	// Its demand stays as it was, and is there when it comes back.
	demands(t, c, "q", 21, 0)
	c = loads(t, c, made(t, "total 4", "q 1 0 0 queue 1 1 9 9 4", "catch-all 1 0 0 reject"))
	demands(t, c, "q", 37, 0)
	limits(t, c, "catch-all 2 2 2 2", "exempt 0 0 0 0", "q 2 2 2 2")
	c = arrives(t, c, 6, to("q", 3))
	for _, id := range []int{1, 3, 5, 2} {
		c = done(t, c, id, ended(0, id, "q"))
	}
	done(t, c, 4, ended(0, 4, "q"), started(0, 6, "q", 2))
}

// P25.2, P25.3: those who wait since the level was a queue go ahead of who comes to it as one of the kind Reject.
func TestLoadQueueToReject(t *testing.T) {
	c := opens(t, made(t, "total 4", "q 1 0 0 queue 1 1 9 3 4", "catch-all 1 0 0 reject"))
	c = arrives(t, c, 1, to("q", 2), started(0, 1, "q", 2))
	c = arrives(t, c, 2, to("q", 1))
	c = arrives(t, c, 3, to("q", 2))
	c = arrives(t, c, 4, to("q", 1))
	c = loads(t, c, made(t, "total 6", "q 1 0 0 reject", "catch-all 1 0 0 reject"), started(0, 2, "q", 1))
	stand(t, c, "q", []int{1, 2}, []int{3, 4})
	refuses(t, c, 5, to("q", 1), "q", api.ErrFull)
	c = done(t, c, 2, ended(0, 2, "q"))
	refuses(t, c, 5, to("q", 1), "q", api.ErrFull)
	c = drops(t, c, 3, gone(0, 3, "q"), started(0, 4, "q", 1))
	refuses(t, c, 5, to("q", 1), "q", api.ErrFull)
	c = done(t, c, 1, ended(0, 1, "q"))
	c = arrives(t, c, 5, to("q", 2), started(0, 5, "q", 2))
	// And back: who does not fit waits again.
	c = loads(t, c, made(t, "total 4", "q 1 0 0 queue 1 1 9 3 4", "catch-all 1 0 0 reject"))
	c = arrives(t, c, 6, to("q", 1))
	ticks(t, ticks(t, ticks(t, c)), late(3, 6, "q"))
}

// P25.2: a level that goes while some run and wait is quiet: it takes nobody, and goes on till it is empty. One in which
// nobody is goes at once, of whatever kind.
func TestLoadWithout(t *testing.T) {
	x := made(t, "total 8", "q 1 0 0 queue 1 1 9 3 4", "r 1 0 0 reject", "e exempt", "s 1 0 0 reject", "f exempt", "p 0 0 0 queue 3 1 1 1 1", "catch-all 1 0 0 reject")
	y := made(t, "total 20", "catch-all 1 0 0 reject")
	c := opens(t, x)
	c = arrives(t, c, 0, to("q", 2), started(0, 0, "q", 2))
	c = arrives(t, c, 1, to("r", 2), started(0, 1, "r", 2))
	c = arrives(t, c, 2, to("e", 2), started(0, 2, "e", 2))
	c = arrives(t, c, 3, to("q", 4))
	c = arrives(t, c, 4, to("q", 4))
	was := state(t, c, "q").Level
	c = loads(t, c, y, started(0, 3, "q", 4))
	limits(t, c, "catch-all 7 7 7 7", "e 0 0 0 0 q", "exempt 0 0 0 0", "q 7 7 7 7 q", "r 6 6 6 6 q")
	if s := state(t, c, "q"); s.Level != was || s.Fair.Open != 0 {
		t.Errorf("%v", s)
	}
	// Who was of one of them is of catch-all now.
	for i, name := range []string{"q", "r", "e", "s"} {
		c = arrives(t, c, 10+i, to(name, 1), started(0, 10+i, "catch-all", 1))
	}
	// A quiet level stays so, under whatever table that has it not.
	c = loads(t, c, y)
	c = loads(t, c, made(t, "total 20", "a exempt", "catch-all 1 0 0 reject"))
	limits(t, c, "a 0 0 0 0", "catch-all 7 7 7 7", "e 0 0 0 0 q", "exempt 0 0 0 0", "q 7 7 7 7 q", "r 6 6 6 6 q")
	c = loads(t, c, y)
	c = done(t, c, 1, ended(0, 1, "r"), started(0, 4, "q", 4))
	limits(t, c, "catch-all 10 10 10 10", "e 0 0 0 0 q", "exempt 0 0 0 0", "q 10 10 10 10 q")
	c = done(t, c, 2, ended(0, 2, "e"))
	stateNot(t, c, "e")
	c = done(t, c, 0, ended(0, 0, "q"))
	c = done(t, c, 3, ended(0, 3, "q"))
	c = done(t, c, 4, ended(0, 4, "q"))
	limits(t, c, "catch-all 20 20 20 20", "exempt 0 0 0 0")
	for id := range 5 {
		phase(t, c, id, api.Over, []string{"q", "r", "e", "q", "q"}[id])
		doneNot(t, c, id, api.ErrState)
	}
}

// P25.2: a level that comes back while it is quiet takes who comes again; who waits and runs there stays.
func TestLoadComesBack(t *testing.T) {
	queue, none := made(t, "total 8", "q 1 0 0 queue 2 1 9 9 4", "catch-all 1 0 0 reject"), made(t, "total 8", "catch-all 1 0 0 reject")
	c := opens(t, queue)
	c = arrives(t, c, 1, to("q", 4), started(0, 1, "q", 4))
	c = arrives(t, c, 2, to("q", 2))
	away := loads(t, c, none)
	limits(t, away, "catch-all 4 4 4 4", "exempt 0 0 0 0", "q 4 4 4 4 q")
	arrives(t, away, 3, to("q", 1), started(0, 3, "catch-all", 1))
	back := loads(t, ticks(t, away), queue)
	back = arrives(t, back, 3, to("q", 1))
	stand(t, back, "q", []int{1}, []int{2, 3})
	back = ticks(t, back)
	back = done(t, back, 1, ended(2, 1, "q"), started(2, 2, "q", 2), started(2, 3, "q", 1))
	// As one of other numbers, and of another kind.
	back = loads(t, away, made(t, "total 8", "q 3 0 0 queue 4 1 2 9 7", "catch-all 1 0 0 reject"), started(0, 2, "q", 2))
	limits(t, back, "catch-all 2 2 2 2", "exempt 0 0 0 0", "q 6 6 6 6")
	if f := state(t, back, "q").Fair; f.Open != 4 || len(f.Lanes) != 4 || f.Length != 2 || f.Guess != 7 {
		t.Errorf("%v", f)
	}
	back = loads(t, away, made(t, "total 8", "q exempt", "catch-all 1 0 0 reject"), started(0, 2, "q", 2))
	arrives(t, back, 3, to("q", 16), started(0, 3, "q", 16))
	back = loads(t, away, made(t, "total 8", "q 1 0 0 reject", "catch-all 1 0 0 reject"))
	refuses(t, back, 3, to("q", 1), "q", api.ErrFull)
}

// P25.2, P25.4: a quiet state that becomes empty by a Done goes; seats are shared then, and all who may go start.
func TestQuietIsDone(t *testing.T) {
	x := made(t, "total 8", "p 1 0 0 queue 1 1 5 5 1", "q 2 0 0 reject", "z 1 0 0 queue 1 1 5 5 1", "catch-all 2 0 0 reject")
	y := made(t, "total 8", "p 1 0 0 queue 1 1 5 5 1", "z 1 0 0 queue 1 1 5 5 1", "catch-all 2 0 0 reject")
	c := opens(t, x)
	limits(t, c, "catch-all 3 3 3 3", "exempt 0 0 0 0", "p 1 1 1 1", "q 3 3 3 3", "z 1 1 1 1")
	c = arrives(t, c, 9, to("z", 1), started(0, 9, "z", 1))
	c = arrives(t, c, 8, to("z", 1))
	c = arrives(t, c, 7, to("p", 1), started(0, 7, "p", 1))
	c = arrives(t, c, 6, to("p", 1))
	c = arrives(t, c, 5, to("q", 1), started(0, 5, "q", 1))
	c = arrives(t, c, 4, to("q", 2), started(0, 4, "q", 2))
	c = loads(t, c, y)
	limits(t, c, "catch-all 3 3 3 3", "exempt 0 0 0 0", "p 1 1 1 1", "q 3 3 3 3 q", "z 1 1 1 1")
	c = done(t, c, 5, ended(0, 5, "q"))
	c = done(t, c, 4, ended(0, 4, "q"), started(0, 6, "p", 1), started(0, 8, "z", 1))
	limits(t, c, "catch-all 4 4 4 4", "exempt 0 0 0 0", "p 2 2 2 2", "z 2 2 2 2")
	stateNot(t, c, "q")
}

// lends: a controller at 1 in which the quiet level q has lent all that it has; 7 waits there, nobody runs. In c 21 waits
// for a seat more than c has.
func lends(t *testing.T) api.Ctl {
	t.Helper()
	b, c := "b 1 0 all queue 1 1 9 90 1", "c 1 0 0 queue 1 1 9 90 1"
	x := opens(t, made(t, "total 12, period 1", b, c, "catch-all 1 0 0 reject", "q 1 100 all queue 1 1 9 3 1"))
	for i := range 3 {
		x = arrives(t, x, 11+i, to("b", 10), [][]api.Told{{started(0, 11, "b", 3)}, nil, nil}[i]...)
	}
	x = arrives(t, x, 20, to("c", 3), started(0, 20, "c", 3))
	x = arrives(t, x, 21, to("c", 1))
	x = ticks(t, x)
	limits(t, x, "b 6 3 3 12", "c 3 3 3 3", "catch-all 3 3 3 3", "exempt 0 0 0 0", "q 0 3 0 12")
	x = arrives(t, x, 7, to("q", 1))
	x = arrives(t, x, 6, to("q", 1))
	x = drops(t, x, 6, gone(1, 6, "q"))
	x = loads(t, x, made(t, "total 12, period 1", b, c, "catch-all 1 0 0 reject"))
	limits(t, x, "b 6 3 3 12", "c 3 3 3 3", "catch-all 3 3 3 3", "exempt 0 0 0 0", "q 0 3 0 12 q")
	stand(t, x, "q", nil, []int{7})
	return x
}

// P25.4, P25.5: a quiet state that becomes empty by a Drop, or by a Tick.
func TestQuietIsDroppedOrLate(t *testing.T) {
	c := lends(t)
	after := []string{"b 4 4 4 12", "c 4 4 4 4", "catch-all 4 4 4 4", "exempt 0 0 0 0"}
	limits(t, drops(t, c, 7, gone(1, 7, "q"), started(1, 21, "c", 1)), after...)
	c = ticks(t, ticks(t, c))
	c = ticks(t, c, late(4, 7, "q"), started(4, 21, "c", 1))
	limits(t, c, after...)
	stateNot(t, c, "q")
	phase(t, c, 7, api.Over, "q")
}

// P25.2: a quiet level that comes back as one that needs no seats lets go whoever waits.
func TestLoadOfWhoLent(t *testing.T) {
	c := loads(t, lends(t), made(t, "total 12, period 1", "q exempt"), started(1, 7, "q", 1))
	limits(t, c, "b 2 2 2 12 q", "c 2 2 2 2 q", "catch-all 8 8 8 12", "exempt 0 0 0 0", "q 0 0 0 0")
}

// full: a controller with as many states as there may be: in each of the first ones of the levels l00, l01, .. somebody
// runs, who has the level's number. And the table of nothing.
func full(t *testing.T, first int) (api.Ctl, api.Table) {
	t.Helper()
	var levels []string
	for i := range api.MaxLevels - 2 {
		levels = append(levels, fmt.Sprintf("l%02d %s", i, []string{"exempt", "100 0 0 reject", "100 0 0 queue 1 1 1 1 1"}[i%3]))
	}
	c := opens(t, made(t, "total 4096", levels...))
	for i := range first {
		c = arrives(t, c, i, to(fmt.Sprintf("l%02d", i), 1), started(0, i, fmt.Sprintf("l%02d", i), 1))
	}
	return c, nothing(t)
}

// P25.2: up to MaxLevels states, and one more.
func TestLoadUpToMaxLevels(t *testing.T) {
	c, x := full(t, api.MaxLevels-2)
	one, two := made(t, "total 100", "z exempt"), made(t, "total 100", "z 1 0 0 reject", "l00 exempt")
	loadsNot(t, c, one, api.ErrFull)
	loadsNot(t, c, two, api.ErrFull)
	c = loads(t, c, x)
	if len(c.Levels) != api.MaxLevels {
		t.Errorf("%d states", len(c.Levels))
	}
	loadsNot(t, c, one, api.ErrFull)
	loadsNot(t, c, two, api.ErrFull)
	c = loads(t, c, x)
	c = loads(t, c, made(t, "total 100", "l00 exempt", "l13 100 0 0 reject"))
	c = loads(t, c, x)
	c = done(t, c, 5, ended(0, 5, "l05"))
	for _, y := range []api.Table{one, two} {
		if next := loads(t, c, y); len(next.Levels) != api.MaxLevels {
			t.Errorf("%d states", len(next.Levels))
		}
	}
	loadsNot(t, c, made(t, "total 100", "z exempt", "y exempt"), api.ErrFull)
	// Who is refused comes in once there is room.
	c = done(t, c, 4, ended(0, 4, "l04"))
	loads(t, c, made(t, "total 100", "z exempt", "y exempt"))
}

// P25.2: those that are taken away do not count.
func TestLoadCountsWhoIsThere(t *testing.T) {
	for first := range api.MaxLevels - 1 {
		c, _ := full(t, first)
		for more := range api.MaxLevels - 1 {
			var levels []string
			for i := range more {
				levels = append(levels, fmt.Sprintf("m%02d exempt", i))
			}
			x := made(t, "total 50", levels...)
			if first+more+2 > api.MaxLevels {
				loadsNot(t, c, x, api.ErrFull)
			} else if next := loads(t, c, x); len(next.Levels) != first+more+2 {
				t.Errorf("%d and %d: %d states", first, more, len(next.Levels))
			}
		}
	}
	var many api.Table
	for i := range api.MaxLevels + 1 {
		many.Config.Levels = append(many.Config.Levels, api.Level{Name: fmt.Sprint("n", i)})
	}
	loadsNot(t, api.Ctl{}, many, api.ErrFull)
	if c := ctl.New(many); len(c.Levels) != api.MaxLevels+1 {
		t.Errorf("%v", c)
	}
}

// P25.2: where several Exempt levels are, they have no part of the seats, quiet ones too.
func TestLoadExempt(t *testing.T) {
	c := opens(t, made(t, "total 10", "a exempt", "b exempt", "c 1 0 0 reject", "catch-all 1 0 0 reject"))
	c = arrives(t, c, 1, to("a", 9), started(0, 1, "a", 9))
	c = arrives(t, c, 2, to("b", 9), started(0, 2, "b", 9))
	c = arrives(t, c, 3, to("c", 9), started(0, 3, "c", 5))
	c = loads(t, c, made(t, "total 1", "b 1 0 0 reject", "d exempt", "catch-all 1 0 0 reject"))
	limits(t, c, "a 0 0 0 0 q", "b 1 1 1 1", "c 0 0 0 0 q", "catch-all 0 0 0 0", "d 0 0 0 0", "exempt 0 0 0 0")
	c = done(t, c, 3, ended(0, 3, "c"))
	c = done(t, c, 1, ended(0, 1, "a"))
	refuses(t, c, 4, to("b", 1), "b", api.ErrFull)
	c = done(t, c, 2, ended(0, 2, "b"))
	arrives(t, c, 4, to("b", 1), started(0, 4, "b", 1))
}
