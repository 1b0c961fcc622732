package ctl_test

import (
	"math"
	"slices"
	"testing"

	"usher/api"
	"usher/ctl"
)

// P25.5: Until is Now and Wait; who waits is late just at it, whenever that one came.
func TestUntil(t *testing.T) {
	for _, now := range []int{0, 1, 99, api.MaxTick - 9} {
		c := opens(t, made(t, "total 2", "q 1 0 0 queue 1 1 9 3 4", "catch-all 1 0 0 reject"))
		c.Now = now
		c = arrives(t, c, 5, to("q", 1), started(now, 5, "q", 1))
		c = arrives(t, c, 4, to("q", 1))
		c = ticks(t, c)
		c = arrives(t, c, 3, to("q", 1))
		c = ticks(t, c)
		phase(t, c, 4, api.Waits, "q")
		c = ticks(t, c, late(now+3, 4, "q"))
		phase(t, c, 4, api.Over, "q")
		phase(t, c, 3, api.Waits, "q")
		doneNot(t, c, 4, api.ErrState)
		dropsNot(t, c, 4, api.ErrState)
		c = ticks(t, c, late(now+4, 3, "q"))
		// Who runs is never late.
		c = ticks(t, ticks(t, c))
		stand(t, c, "q", []int{5}, nil)
		if c.Now != now+6 {
			t.Errorf("Now is %d", c.Now)
		}
	}
}

// P25.5: who starts a tick ahead of Until is not late; a wait of one tick, and the longest one.
func TestWaits(t *testing.T) {
	c := opens(t, made(t, "total 2", "q 1 0 0 queue 1 1 9 1 4", "z 1 0 0 queue 1 1 9 1000 4", "catch-all 1 0 0 reject"))
	limits(t, c, "catch-all 1 1 1 1", "exempt 0 0 0 0", "q 1 1 1 1", "z 0 0 0 0")
	c = arrives(t, c, 1, to("q", 1), started(0, 1, "q", 1))
	c = arrives(t, c, 2, to("q", 1))
	c = arrives(t, c, 3, to("z", 1))
	through := done(t, c, 1, ended(0, 1, "q"), started(0, 2, "q", 1))
	ticks(t, ticks(t, through))
	c = ticks(t, c, late(1, 2, "q"))
	for range 998 {
		c = ticks(t, c)
	}
	stand(t, c, "z", nil, []int{3})
	ticks(t, c, late(1000, 3, "z"))
}

// P25.5: all who are late, level by level, those of one level by their IDs; behind them who starts, level by level.
func TestTickTellsInOrder(t *testing.T) {
	x := made(t, "total 9", "b 1 0 0 queue 1 1 9 3 4", "a 1 0 0 queue 4 1 9 3 4", "catch-all 1 0 0 reject")
	c := opens(t, x)
	c = arrives(t, c, 90, to("b", 2), started(0, 90, "b", 2))
	c = arrives(t, c, 80, to("a", 2), started(0, 80, "a", 2))
	c = arrives(t, c, 9, to("b", 2))
	c = arrives(t, c, 7, to("b", 3))
	for i, user := range []string{"k", "l", "m", "n", "o", "p"} {
		c = arrives(t, c, 50-i, to("a", 2, user))
	}
	c = ticks(t, c)
	c = arrives(t, c, 6, to("b", 1))
	c = arrives(t, c, 5, to("a", 1))
	c = ticks(t, c)
	c = ticks(t, c, late(3, 45, "a"), late(3, 46, "a"), late(3, 47, "a"), late(3, 48, "a"), late(3, 49, "a"), late(3, 50, "a"),
		late(3, 7, "b"), late(3, 9, "b"), started(3, 5, "a", 1), started(3, 6, "b", 1))
	stand(t, c, "a", []int{80, 5}, nil)
	stand(t, c, "b", []int{90, 6}, nil)
	ticks(t, c)
}

// P25.5: Now up to MaxTick, and not beyond it.
func TestMaxTick(t *testing.T) {
	c := opens(t, made(t, "total 2", "q 1 0 0 queue 1 1 9 1 4", "catch-all 1 0 0 reject"))
	c.Now = api.MaxTick - 1
	c = arrives(t, c, 1, to("q", 1), started(api.MaxTick-1, 1, "q", 1))
	c = arrives(t, c, 2, to("q", 1))
	c = ticks(t, c, late(api.MaxTick, 2, "q"))
	if c.Now != api.MaxTick {
		t.Errorf("Now is %d", c.Now)
	}
	for _, now := range []int{api.MaxTick, api.MaxTick + 1, math.MaxInt - 1, math.MaxInt} {
		c.Now = now
		fails(t, c, api.ErrRange, ctl.Tick)
		fails(t, api.Ctl{Now: now}, api.ErrRange, ctl.Tick)
	}
	// Other events go on.
	c.Now = api.MaxTick
	c = arrives(t, c, 3, to("q", 1))
	c = done(t, c, 1, ended(api.MaxTick, 1, "q"), started(api.MaxTick, 3, "q", 1))
	loads(t, c, nothing(t))
	// A moment below 0 is of a controller made by hand.
	for _, now := range []int{math.MinInt, -7, -1} {
		c, told, e := ctl.Tick(api.Ctl{Now: now})
		if e != api.OK || len(told) > 0 || c.Now != now+1 {
			t.Errorf("Tick at %d: %v, %v, %v", now, c, told, e)
		}
	}
}

// P25.5: at a multiple of Period the demands turn, by what is wanted then, and seats are shared by them; who may go then
// starts. At another moment they don't.
func TestPeriod(t *testing.T) {
	c := opens(t, made(t, "total 12, period 3", "a 1 50 all queue 1 1 9 90 1", "b 1 50 all reject", "catch-all 1 0 0 reject"))
	before := []string{"a 4 4 2 12", "b 4 4 2 12", "catch-all 4 4 4 4", "exempt 0 0 0 0"}
	limits(t, c, before...)
	for i := range 4 {
		c = arrives(t, c, i, to("a", 2), [][]api.Told{{started(0, 0, "a", 2)}, {started(0, 1, "a", 2)}, nil, nil}[i]...)
	}
	demands(t, c, "a", 8, 0)
	for range 2 {
		c = ticks(t, c)
		limits(t, c, before...)
		demands(t, c, "a", 8, 0)
	}
	c = ticks(t, c, started(3, 2, "a", 2))
	after := []string{"a 6 4 2 12", "b 2 4 2 12", "catch-all 4 4 4 4", "exempt 0 0 0 0"}
	limits(t, c, after...)
	demands(t, c, "a", 8, 8)
	demands(t, c, "b", 0, 0)
	for i := range 3 {
		c = done(t, c, i, [][]api.Told{{ended(3, 0, "a"), started(3, 3, "a", 2)}, {ended(3, 1, "a")}, {ended(3, 2, "a")}}[i]...)
	}
	c = arrives(t, c, 9, to("b", 2), started(3, 9, "b", 2))
	demands(t, c, "a", 8, 8)
	demands(t, c, "b", 2, 0)
	c = ticks(t, ticks(t, c))
	demands(t, c, "a", 8, 8)
	demands(t, c, "b", 2, 0)
	c = ticks(t, c)
	demands(t, c, "a", 2, 8)
	demands(t, c, "b", 2, 2)
	limits(t, c, "a 6 4 2 12", "b 2 4 2 12", "catch-all 4 4 4 4", "exempt 0 0 0 0")
	c = done(t, c, 3, ended(6, 3, "a"))
	c = ticks(t, ticks(t, ticks(t, c)))
	demands(t, c, "a", 0, 6)
	c = ticks(t, ticks(t, ticks(t, c)))
	demands(t, c, "a", 0, 4)
	limits(t, c, "a 5 4 2 12", "b 3 4 2 12", "catch-all 4 4 4 4", "exempt 0 0 0 0")
}

// P25.5: who is late at a multiple of Period is not wanted any more; and who starts there is, as what it takes.
func TestPeriodBehindLate(t *testing.T) {
	c := opens(t, made(t, "total 12, period 2", "a 1 50 all queue 1 1 9 2 1", "b 1 50 all reject", "catch-all 1 0 0 reject"))
	c = arrives(t, c, 1, to("a", 3), started(0, 1, "a", 3))
	c = arrives(t, c, 2, to("a", 9))
	demands(t, c, "a", 12, 0)
	c = ticks(t, c)
	c = ticks(t, c, late(2, 2, "a"))
	demands(t, c, "a", 3, 12)
	limits(t, c, "a 6 4 2 12", "b 2 4 2 12", "catch-all 4 4 4 4", "exempt 0 0 0 0")
}

// P25.5: each period that there may be, and one that only a table made by hand has.
func TestPeriods(t *testing.T) {
	for _, period := range []int{1, 2, 7, 10, 1000} {
		c := opens(t, made(t, "total 12, period 9", "b 1 50 all reject"))
		c.Table.Config.Period = period
		c = arrives(t, c, 1, to("b", 1), started(0, 1, "b", 1))
		for range 1001 {
			c = ticks(t, c)
			if want := c.Now >= period; want != (state(t, c, "b").Demand.Smooth == 1) {
				t.Fatalf("at %d of %d: %v", c.Now, period, state(t, c, "b"))
			}
		}
	}
	for _, period := range []int{0, -1, -3, math.MinInt, math.MaxInt} {
		c := opens(t, made(t, "total 12"))
		c.Table.Config.Period = period
		for range 5 {
			c = ticks(t, c)
		}
	}
}

// P25.5: levels of the kind Exempt have no demand, whoever runs there.
func TestExemptHasNoDemand(t *testing.T) {
	c := opens(t, made(t, "total 12, period 2", "e exempt"))
	for i := range 3 {
		c = arrives(t, c, i, to("e", 16), started(0, i, "e", 16))
	}
	for range 5 {
		c = ticks(t, c)
		demands(t, c, "e", 0, 0)
		limits(t, c, "catch-all 12 12 12 12", "e 0 0 0 0", "exempt 0 0 0 0")
	}
	// One that it has since it was of another kind stays.
	c.Levels[1].Demand = api.Demand{High: 5, Smooth: 9}
	for range 3 {
		c = ticks(t, c)
		demands(t, c, "e", 5, 9)
	}
	demands(t, done(t, c, 2, ended(8, 2, "e")), "e", 5, 9)
}

// P25.3, P25.4: each event notes what is wanted in each level, as a High that does not fall.
func TestEachEventNotesDemands(t *testing.T) {
	c := opens(t, made(t, "total 12, period 100", "a 1 50 all queue 1 1 9 2 1", "b 1 50 all reject", "catch-all 1 0 0 reject"))
	c = arrives(t, c, 1, to("a", 3), started(0, 1, "a", 3))
	demands(t, c, "a", 3, 0)
	c = arrives(t, c, 2, to("a", 4))
	c = arrives(t, c, 3, to("b", 1), started(0, 3, "b", 1))
	demands(t, c, "a", 7, 0)
	demands(t, c, "b", 1, 0)
	// Behind a Dispatch: the width counts as the limit then.
	wide := arrives(t, drops(t, c, 2, gone(0, 2, "a")), 4, to("a", 16))
	demands(t, wide, "a", 19, 0)
	demands(t, done(t, wide, 1, ended(0, 1, "a"), started(0, 4, "a", 4)), "a", 19, 0)
	// Of a controller in which nothing was noted each event notes it, of all its levels.
	x := nothing(t)
	for i := range c.Levels {
		c.Levels[i].Demand = api.Demand{}
	}
	for i, call := range []func(api.Ctl) (api.Ctl, []api.Told, api.Errno){
		ctl.Tick,
		func(c api.Ctl) (api.Ctl, []api.Told, api.Errno) { return ctl.Drop(c, 2) },
		func(c api.Ctl) (api.Ctl, []api.Told, api.Errno) { return ctl.Done(c, 3) },
		func(c api.Ctl) (api.Ctl, []api.Told, api.Errno) { return ctl.Load(c, x) },
		func(c api.Ctl) (api.Ctl, []api.Told, api.Errno) { return ctl.Arrive(c, 5, to("", 2)) },
		func(c api.Ctl) (api.Ctl, []api.Told, api.Errno) { return ctl.Arrive(c, 5, to("exempt", 2)) },
		func(c api.Ctl) (api.Ctl, []api.Told, api.Errno) { return ctl.Arrive(c, 5, to("b", 9)) },
	} {
		next, _, e := call(c)
		if e != api.OK {
			t.Fatal(e)
		}
		demands(t, next, "a", []int{7, 3, 7, 7, 7, 7, 7}[i], 0)
		if i == 2 {
			demands(t, next, "b", 0, 0)
		} else {
			demands(t, next, "b", 1, 0)
		}
		demands(t, next, "catch-all", []int{0, 0, 0, 0, 2, 0, 0}[i], 0)
	}
}

// P25.5: a tick dispatches whoever may go, in each level, also where nobody is late.
func TestTickDispatchesAll(t *testing.T) {
	c := opens(t, made(t, "total 9, period 50", "p 1 0 0 queue 1 1 5 9 4", "q 1 0 0 queue 1 1 5 9 4", "r 1 0 0 reject"))
	for i, name := range []string{"p", "q", "q", "p", "q"} {
		_, told, e := ctl.Arrive(c, i, to(name, 1))
		c = arrives(t, c, i, to(name, 1), told...)
		if first := i < 2; e != api.OK || (len(told) == 1) != first {
			t.Fatal(told, e)
		}
	}
	for i := range c.Levels {
		c.Levels[i].Limit = 9
	}
	before := copied(c)
	_, told, e := ctl.Tick(c)
	is(t, "Tick", told, []api.Told{started(1, 3, "p", 1), started(1, 2, "q", 1), started(1, 4, "q", 1)}, e)
	if !same(c, before) || !slices.Equal(ids(c.Levels[2].Running), []int{0}) {
		t.Errorf("%v", c)
	}
}
