package clock_test

import (
	"math"
	"slices"
	"sort"
	"testing"

	"usher/api"
	"usher/clock"
)

// random are numbers below a bound, the same ones each time.
type random uint64

func (r *random) below(n int) int {
	x := uint64(*r)
	x ^= x << 13
	x ^= x >> 7
	x ^= x << 17
	*r = random(x)
	return int((x >> 11) % uint64(n))
}

const seed = random(88172645463325252)

// model is what a clock is held against: moments by ids, put in order each time anew.
type model struct {
	now int
	at  map[int]int
}

func newModel(list ...api.Due) *model {
	m := &model{at: map[int]int{}}
	for _, d := range list {
		m.at[d.ID] = d.At
	}
	return m
}

// list is all that is to be due, as it is due.
func (m *model) list() []api.Due {
	var list []api.Due
	for id, at := range m.at {
		list = append(list, api.Due{ID: id, At: at})
	}
	sort.Slice(list, func(a, b int) bool {
		if list[a].At != list[b].At {
			return list[a].At < list[b].At
		}
		return list[a].ID < list[b].ID
	})
	return list
}

func (m *model) set(id, at int) api.Errno {
	_, there := m.at[id]
	switch {
	case at <= m.now || at > 1<<40:
		return api.ErrArg
	case there:
		return api.ErrTwice
	case len(m.at) == 4096:
		return api.ErrFull
	}
	m.at[id] = at
	return api.OK
}

func (m *model) cancel(id int) api.Errno {
	if _, there := m.at[id]; !there {
		return api.ErrNone
	}
	delete(m.at, id)
	return api.OK
}

func (m *model) advance(to int) ([]api.Due, api.Errno) {
	if to < m.now || to > 1<<40 {
		return nil, api.ErrArg
	}
	m.now = to
	var told []api.Due
	for _, d := range m.list() {
		if d.At <= to {
			told = append(told, d)
			delete(m.at, d.ID)
		}
	}
	return told, api.OK
}

// with is a clock on which a list was set.
func with(t *testing.T, list ...api.Due) *clock.Clock {
	t.Helper()
	c := clock.New()
	for _, d := range list {
		checkErrno(t, "Set", c.Set(d.ID, d.At), api.OK)
	}
	return c
}

// upTo is n dues: the id i is due at the moment that f says.
func upTo(n int, f func(i int) int) []api.Due {
	var list []api.Due
	for i := range n {
		list = append(list, api.Due{ID: i, At: f(i)})
	}
	return list
}

func checkErrno(t *testing.T, name string, got, want api.Errno) {
	t.Helper()
	if got != want {
		t.Fatalf("%s: error %d, not %d", name, got, want)
	}
}

// checkHolds looks at a clock by all that changes nothing.
func checkHolds(t *testing.T, name string, c *clock.Clock, now int, want []api.Due) {
	t.Helper()
	if got := c.Now(); got != now {
		t.Fatalf("%s: Now = %d, not %d", name, got, now)
	}
	if got := c.Left(); got != len(want) {
		t.Fatalf("%s: Left = %d, not %d", name, got, len(want))
	}
	got, ok := c.Next()
	if len(want) == 0 && (ok || got != api.Due{}) {
		t.Fatalf("%s: Next = %v, %v where there is nothing", name, got, ok)
	}
	if len(want) > 0 && (!ok || got != want[0]) {
		t.Fatalf("%s: Next = %v, %v, not %v", name, got, ok, want[0])
	}
}

// checkTells advances a clock, and looks at what it tells.
func checkTells(t *testing.T, name string, c *clock.Clock, to int, want []api.Due) {
	t.Helper()
	got, e := c.Advance(to)
	checkErrno(t, name+": Advance", e, api.OK)
	if !slices.Equal(got, want) {
		t.Fatalf("%s: Advance(%d) = %v, not %v", name, to, got, want)
	}
}

// checkRefuses advances a clock to where it may not go.
func checkRefuses(t *testing.T, name string, c *clock.Clock, to int, want api.Errno) {
	t.Helper()
	got, e := c.Advance(to)
	checkErrno(t, name+": Advance", e, want)
	if len(got) != 0 {
		t.Fatalf("%s: Advance(%d) = %v beside the error %d", name, to, got, e)
	}
}

// checkComesOut advances a clock moment by moment to the end, and looks at all that is told.
func checkComesOut(t *testing.T, name string, c *clock.Clock, want []api.Due) {
	t.Helper()
	for len(want) > 0 {
		first, ok := c.Next()
		if !ok || first != want[0] {
			t.Fatalf("%s: Next = %v, %v, not %v", name, first, ok, want[0])
		}
		n := 1
		for n < len(want) && want[n].At == first.At {
			n++
		}
		if c.Now() < first.At-1 {
			checkTells(t, name, c, first.At-1, nil)
		}
		checkTells(t, name, c, first.At, want[:n])
		want = want[n:]
		checkHolds(t, name, c, first.At, want)
	}
	checkTells(t, name, c, api.MaxTick, nil)
	checkHolds(t, name, c, api.MaxTick, nil)
}

func TestChapterExamples(t *testing.T) {
	c := with(t, api.Due{ID: 7, At: 5}, api.Due{ID: 3, At: 5}, api.Due{ID: 9, At: 2})
	checkTells(t, "example", c, 4, []api.Due{{ID: 9, At: 2}})
	checkTells(t, "example", c, 5, []api.Due{{ID: 3, At: 5}, {ID: 7, At: 5}})
	checkErrno(t, "Set(1, 5) then", c.Set(1, 5), api.ErrArg)
}

// P5.1, P5.2: a clock at which nothing is to be due: new, told, cancelled.
func TestNothing(t *testing.T) {
	c := clock.New()
	if c == nil {
		t.Fatal("New is nil")
	}
	look := func(name string, now int) {
		t.Helper()
		checkHolds(t, name, c, now, nil)
		for _, id := range []int{0, 1, -1, math.MinInt, math.MaxInt} {
			checkErrno(t, name+": Cancel", c.Cancel(id), api.ErrNone)
		}
		checkTells(t, name, c, now, nil)
		checkHolds(t, name, c, now, nil)
		checkRefuses(t, name, c, now-1, api.ErrArg)
		checkRefuses(t, name, c, api.MaxTick+1, api.ErrArg)
		checkHolds(t, name, c, now, nil)
	}
	look("new", 0)
	checkTells(t, "new", c, 3, nil)
	look("advanced", 3)
	checkErrno(t, "Set", c.Set(1, 8), api.OK)
	checkTells(t, "told", c, 9, []api.Due{{ID: 1, At: 8}})
	look("told", 9)
	checkErrno(t, "Set", c.Set(1, 20), api.OK)
	checkErrno(t, "Cancel", c.Cancel(1), api.OK)
	look("cancelled", 9)
	checkTells(t, "cancelled", c, 30, nil)
	look("the end", 30)
	checkTells(t, "the end", c, api.MaxTick, nil)
	look("the end", api.MaxTick)
}

// P5.1, P5.2: one to be due, of the least and the greatest ids and moments.
func TestOne(t *testing.T) {
	for _, id := range []int{0, 1, -1, api.MaxID, api.MaxID + 1, math.MinInt, math.MaxInt} {
		for _, at := range []int{1, 2, 1 << 31, 1<<32 + 1, api.MaxTick - 1, api.MaxTick} {
			want := []api.Due{{ID: id, At: at}}
			checkHolds(t, "one", with(t, want...), 0, want)
			checkComesOut(t, "one", with(t, want...), want)

			c := with(t, want...)
			checkTells(t, "one, and far on", c, api.MaxTick, want)
			checkHolds(t, "one, and far on", c, api.MaxTick, nil)
			checkErrno(t, "Cancel of one that was told", c.Cancel(id), api.ErrNone)

			c = with(t, want...)
			checkErrno(t, "Cancel of the one", c.Cancel(id), api.OK)
			checkHolds(t, "one cancelled", c, 0, nil)
			checkErrno(t, "Cancel of the one, twice", c.Cancel(id), api.ErrNone)
			checkComesOut(t, "one cancelled", c, nil)
		}
	}
}

// P5.1: a moment has to be above Now, and at most MaxTick; what may not be set changes nothing.
func TestSetMoments(t *testing.T) {
	for _, now := range []int{0, 1, 2, 1000, 1 << 32, api.MaxTick - 1, api.MaxTick} {
		moments := []int{math.MinInt, -1, 0, now - 1, now, now + 1, api.MaxTick - 1, api.MaxTick, api.MaxTick + 1, math.MaxInt}
		for _, at := range moments {
			want := api.OK
			if at <= now || at > 1<<40 {
				want = api.ErrArg
			}
			c := clock.New()
			checkTells(t, "moments", c, now, nil)
			checkErrno(t, "Set", c.Set(4, at), want)
			if want == api.OK {
				checkHolds(t, "set", c, now, []api.Due{{ID: 4, At: at}})
				checkTells(t, "set", c, at-1, nil)
				checkTells(t, "set", c, at, []api.Due{{ID: 4, At: at}})
			} else {
				checkHolds(t, "not set", c, now, nil)
				checkErrno(t, "Cancel of one that was not set", c.Cancel(4), api.ErrNone)
				checkTells(t, "not set", c, api.MaxTick, nil)
			}
		}
	}
}

// P5.1: an id that is to be due already, whatever the moment; it stays at its own.
func TestSetTwice(t *testing.T) {
	list := []api.Due{{ID: 4, At: 10}, {ID: math.MinInt, At: 20}, {ID: math.MaxInt, At: 10}, {ID: 0, At: 30}}
	want := newModel(list...).list()
	for _, d := range list {
		for _, at := range []int{6, d.At - 1, d.At, d.At + 1, api.MaxTick} {
			c := with(t, list...)
			checkTells(t, "twice", c, 5, nil)
			checkErrno(t, "Set of an id twice", c.Set(d.ID, at), api.ErrTwice)
			checkHolds(t, "set twice", c, 5, want)
			checkComesOut(t, "set twice", c, want)
		}
	}
}

// P5.1: of two faults at one time the moment's is told ahead of the id's, and that ahead of the room's.
func TestTwoFaults(t *testing.T) {
	wrong := []int{math.MinInt, -1, 0, 4, 5, api.MaxTick + 1, math.MaxInt}
	list := upTo(api.MaxItems, func(i int) int { return 10 + i%50 })
	want := newModel(list...).list()

	c := with(t, list[:7]...)
	checkTells(t, "faults", c, 5, nil)
	for _, at := range wrong {
		checkErrno(t, "a wrong moment, and twice", c.Set(3, at), api.ErrArg)
	}
	checkComesOut(t, "faults", c, newModel(list[:7]...).list())

	c = with(t, list...)
	checkTells(t, "faults", c, 5, nil)
	for _, at := range wrong {
		checkErrno(t, "a wrong moment, and full", c.Set(-1, at), api.ErrArg)
		checkErrno(t, "a wrong moment, twice, and full", c.Set(3, at), api.ErrArg)
	}
	for _, at := range []int{6, 13, api.MaxTick} {
		checkErrno(t, "twice, and full", c.Set(3, at), api.ErrTwice)
		checkErrno(t, "full", c.Set(-1, at), api.ErrFull)
	}
	checkHolds(t, "faults", c, 5, want)
	checkComesOut(t, "faults", c, want)
}

// P5.1: MaxItems may be to be due, one more not, till one of them is told or cancelled.
func TestFull(t *testing.T) {
	list := upTo(api.MaxItems, func(i int) int { return 10 + i*7%1000 })
	c, m := with(t, list[1:]...), newModel(list...)
	checkHolds(t, "all but one", c, 0, newModel(list[1:]...).list())
	checkErrno(t, "twice, with room for one", c.Set(5, 9), api.ErrTwice)
	checkErrno(t, "the last one", c.Set(list[0].ID, list[0].At), api.OK)
	checkHolds(t, "full", c, 0, m.list())

	for _, id := range []int{-1, api.MaxItems, math.MinInt, math.MaxInt} {
		checkErrno(t, "one more", c.Set(id, 9), api.ErrFull)
		checkErrno(t, "Cancel of one that found no room", c.Cancel(id), api.ErrNone)
	}
	checkHolds(t, "full, and asked for more", c, 0, m.list())

	checkErrno(t, "Cancel", c.Cancel(2000), api.OK)
	delete(m.at, 2000)
	checkErrno(t, "one for one", c.Set(-1, 1), api.OK)
	checkErrno(t, "one more", c.Set(-2, 1), api.ErrFull)
	checkTells(t, "one for one", c, 1, []api.Due{{ID: -1, At: 1}})
	checkErrno(t, "one for one that was told", c.Set(-2, 500), api.OK)
	m.at[-2] = 500
	checkErrno(t, "one more", c.Set(-1, 500), api.ErrFull)
	checkHolds(t, "one for one", c, 1, m.list())
	checkComesOut(t, "one for one", c, m.list())
}

// P5.1, P5.2: all MaxItems are told at once, and as many find room again.
func TestFullTwice(t *testing.T) {
	c := clock.New()
	for round := range 3 {
		base := c.Now()
		list := upTo(api.MaxItems, func(i int) int { return base + 1 + (i*31+round)%97 })
		for _, d := range list {
			checkErrno(t, "Set", c.Set(d.ID, d.At), api.OK)
		}
		checkErrno(t, "one more", c.Set(-1, base+1), api.ErrFull)
		checkTells(t, "all at once", c, base+97, newModel(list...).list())
		checkHolds(t, "all at once", c, base+97, nil)
	}
}

// P5.1: Cancel of each one, and of ids that are not to be due; the others stay.
func TestCancel(t *testing.T) {
	list := []api.Due{{ID: 4, At: 10}, {ID: math.MinInt, At: 20}, {ID: math.MaxInt, At: 10}, {ID: 0, At: 30}, {ID: -1, At: 5}}
	for _, d := range list {
		c, m := with(t, list...), newModel(list...)
		checkErrno(t, "Cancel", c.Cancel(d.ID), api.OK)
		delete(m.at, d.ID)
		checkErrno(t, "Cancel twice", c.Cancel(d.ID), api.ErrNone)
		for _, id := range []int{1, -2, 4 + 1<<32, 10, 20, math.MinInt + 1, math.MaxInt - 1} {
			checkErrno(t, "Cancel of none", c.Cancel(id), api.ErrNone)
		}
		checkHolds(t, "cancelled", c, 0, m.list())
		checkComesOut(t, "cancelled", c, m.list())
	}
}

// P5.1: an id that was told, or cancelled, may be set again, to any moment above Now.
func TestSetAgain(t *testing.T) {
	for _, at := range []int{6, 7, 8, 9, api.MaxTick} {
		list := []api.Due{{ID: 2, At: 5}, {ID: 3, At: 8}, {ID: 1, At: 8}}
		c := with(t, list...)
		checkTells(t, "again", c, 5, list[:1])
		checkErrno(t, "Set again behind its moment", c.Set(2, at), api.OK)
		checkErrno(t, "Set again twice", c.Set(2, at), api.ErrTwice)
		checkErrno(t, "Cancel", c.Cancel(3), api.OK)
		checkErrno(t, "Set again behind a Cancel", c.Set(3, at), api.OK)
		checkErrno(t, "Set again twice", c.Set(3, 8), api.ErrTwice)
		want := newModel(api.Due{ID: 1, At: 8}, api.Due{ID: 2, At: at}, api.Due{ID: 3, At: at}).list()
		checkHolds(t, "set again", c, 5, want)
		checkComesOut(t, "set again", c, want)
	}
}

// P5.2: of two, what is due first is of the lesser moment, and of one moment of the lesser id.
func TestWhatIsFirst(t *testing.T) {
	rows := []struct {
		name         string
		first, other api.Due
	}{
		{"lesser moment", api.Due{ID: 1, At: 1}, api.Due{ID: 2, At: 2}},
		{"lesser moment of a greater id", api.Due{ID: 2, At: 1}, api.Due{ID: 1, At: 2}},
		{"lesser id", api.Due{ID: 1, At: 3}, api.Due{ID: 2, At: 3}},
		{"id below 0", api.Due{ID: -1, At: 3}, api.Due{ID: 0, At: 3}},
		{"least id beside the greatest", api.Due{ID: math.MinInt, At: 3}, api.Due{ID: math.MaxInt, At: 3}},
		{"greatest id beside the least, of moments", api.Due{ID: math.MaxInt, At: 3}, api.Due{ID: math.MinInt, At: 4}},
		{"moments alike in their low half", api.Due{ID: 2, At: 5}, api.Due{ID: 1, At: 1<<32 + 5}},
		{"ids alike in their low half", api.Due{ID: 5, At: 3}, api.Due{ID: 1<<32 + 5, At: 3}},
		{"first and last moment", api.Due{ID: 2, At: 1}, api.Due{ID: 1, At: api.MaxTick}},
		{"last moments", api.Due{ID: 2, At: api.MaxTick - 1}, api.Due{ID: 1, At: api.MaxTick}},
		{"the last moment", api.Due{ID: 1, At: api.MaxTick}, api.Due{ID: 2, At: api.MaxTick}},
	}
	for _, r := range rows {
		want := []api.Due{r.first, r.other}
		for _, list := range [][]api.Due{{r.first, r.other}, {r.other, r.first}} {
			checkHolds(t, r.name, with(t, list...), 0, want)
			checkComesOut(t, r.name, with(t, list...), want)
			checkTells(t, r.name, with(t, list...), api.MaxTick, want)

			c := with(t, list...)
			checkErrno(t, r.name, c.Cancel(r.first.ID), api.OK)
			checkHolds(t, r.name, c, 0, want[1:])
			checkComesOut(t, r.name, c, want[1:])
		}
	}
}

// P5.2: the moments to which a clock may go: from Now on, to MaxTick; what it refuses changes nothing.
func TestAdvanceMoments(t *testing.T) {
	far := []api.Due{{ID: 6, At: api.MaxTick}}
	for _, now := range []int{0, 1, 2, 1000, 1 << 32, api.MaxTick - 1} {
		c := with(t, far...)
		checkTells(t, "moments", c, now, nil)
		for _, to := range []int{math.MinInt, math.MinInt + 1, -1 << 32, -1, now - 1, api.MaxTick + 1, 1 << 62, math.MaxInt} {
			checkRefuses(t, "moments", c, to, api.ErrArg)
			checkHolds(t, "refused", c, now, far)
		}
		checkTells(t, "where it is", c, now, nil)
		checkHolds(t, "where it is", c, now, far)
		checkTells(t, "one below the last", c, api.MaxTick-1, nil)
		checkHolds(t, "one below the last", c, api.MaxTick-1, far)
		checkTells(t, "the last", c, api.MaxTick, far)
		checkHolds(t, "the last", c, api.MaxTick, nil)
		checkTells(t, "the last again", c, api.MaxTick, nil)
		checkErrno(t, "Set at the last", c.Set(6, api.MaxTick), api.ErrArg)
		checkRefuses(t, "the last", c, api.MaxTick-1, api.ErrArg)
		checkRefuses(t, "the last", c, api.MaxTick+1, api.ErrArg)
		checkHolds(t, "the last again", c, api.MaxTick, nil)
	}
}

// P5.2: an Advance tells what is due at its own moment, and nothing of the moment behind it.
func TestAdvanceItself(t *testing.T) {
	list := []api.Due{{ID: 1, At: 4}, {ID: 8, At: 5}, {ID: 2, At: 5}, {ID: 9, At: 6}, {ID: 3, At: 6}, {ID: 5, At: 9}}
	all := newModel(list...).list()
	for to := range 12 {
		n := 0
		for n < len(all) && all[n].At <= to {
			n++
		}
		c := with(t, list...)
		checkTells(t, "itself", c, to, all[:n])
		checkHolds(t, "itself", c, to, all[n:])
		checkTells(t, "itself, twice", c, to, nil)
		checkHolds(t, "itself, twice", c, to, all[n:])
		checkComesOut(t, "itself", c, all[n:])
	}
}

// P5.2: several of one moment are told by their ids, in whatever order they were set.
func TestOneMoment(t *testing.T) {
	for _, at := range []int{1, 7, api.MaxTick} {
		var list []api.Due
		for i := range 300 {
			list = append(list, api.Due{ID: i*91%300 - 150, At: at})
		}
		list = append(list, api.Due{ID: math.MaxInt, At: at}, api.Due{ID: math.MinInt, At: at})
		want := newModel(list...).list()
		checkHolds(t, "one moment", with(t, list...), 0, want)
		checkComesOut(t, "one moment", with(t, list...), want)
		checkTells(t, "one moment", with(t, list...), api.MaxTick, want)
	}
}

// P5.2: as many as there may be: rising, falling and mixed ones.
func TestManyOrders(t *testing.T) {
	r := seed
	rows := []struct {
		name string
		at   func(i int) int
	}{
		{"rising", func(i int) int { return i + 1 }},
		{"falling", func(i int) int { return api.MaxItems - i }},
		{"up and down", func(i int) int { return max(i, api.MaxItems-i) }},
		{"mixed", func(int) int { return 1 + r.below(api.MaxTick) }},
		{"mixed, of few moments", func(int) int { return 1 + r.below(3) }},
	}
	for _, row := range rows {
		list := upTo(api.MaxItems, row.at)
		want := newModel(list...).list()
		checkHolds(t, row.name, with(t, list...), 0, want)
		checkComesOut(t, row.name, with(t, list...), want)
		checkTells(t, row.name, with(t, list...), api.MaxTick, want)
	}
}

// P5.3: of nil Set, Cancel, Advance are ErrNone, whatever they are given; the others tell nothing.
func TestNil(t *testing.T) {
	var c *clock.Clock
	numbers := []int{math.MinInt, -1, 0, 1, api.MaxTick, api.MaxTick + 1, math.MaxInt}
	for range 2 {
		for _, id := range numbers {
			for _, at := range numbers {
				checkErrno(t, "Set of nil", c.Set(id, at), api.ErrNone)
			}
			checkErrno(t, "Cancel of nil", c.Cancel(id), api.ErrNone)
			checkRefuses(t, "nil", c, id, api.ErrNone)
		}
		checkHolds(t, "nil", c, 0, nil)
	}
}

// Rule 3: what is told is memory of its own, its spare room too: the clock does not see it changed, nor change it.
func TestToldOfItsOwn(t *testing.T) {
	for n := 1; n <= 40; n++ {
		list := upTo(n, func(i int) int { return 1 + i%2 })
		c := with(t, list...)
		want, m := newModel(), newModel(list...)
		first, _ := c.Advance(1)
		told, _ := m.advance(1)
		whole := first[:cap(first)]
		for i := range whole {
			whole[i] = api.Due{ID: 1000 + i, At: 1 << 30}
		}
		checkHolds(t, "a list was changed", c, 1, m.list())

		for _, d := range told {
			checkErrno(t, "Set behind a list", c.Set(d.ID, 3), api.OK)
			want.at[d.ID] = 3
		}
		second, _ := m.advance(2)
		checkTells(t, "behind a list", c, 2, second)
		third, _ := c.Advance(3)
		if !slices.Equal(third, want.list()) {
			t.Fatalf("behind a list: %v, not %v", third, want.list())
		}
		for i := range whole {
			if whole[i] != (api.Due{ID: 1000 + i, At: 1 << 30}) {
				t.Fatalf("a list changed with the clock: %v", whole)
			}
		}
	}
}

// P5.4: all lists of few, set in all ways: an Advance in any parts tells what the whole one tells.
func TestAdvanceInParts(t *testing.T) {
	const moments, ids = 4, 4
	ways := 1
	for range ids {
		ways *= moments + 1
	}
	for way := range ways {
		var list []api.Due
		for id, rest := 0, way; id < ids; id, rest = id+1, rest/(moments+1) {
			if at := rest % (moments + 1); at > 0 {
				list = append(list, api.Due{ID: id, At: at})
			}
		}
		for to := range moments + 1 {
			whole, _ := with(t, list...).Advance(to)
			// Each bit of stops is a moment at which the clock halts on its way.
			for stops := range 1 << to {
				c := with(t, list...)
				var parts []api.Due
				for at := range to {
					if stops>>at&1 == 1 {
						part, _ := c.Advance(at)
						parts = append(parts, part...)
					}
				}
				last, e := c.Advance(to)
				checkErrno(t, "the last part", e, api.OK)
				parts = append(parts, last...)
				if !slices.Equal(parts, whole) {
					t.Fatalf("%v to %d with the stops %b: %v, not %v", list, to, stops, parts, whole)
				}
				m := newModel(list...)
				m.advance(to)
				checkHolds(t, "in parts", c, to, m.list())
			}
		}
	}
}

// walk does some thing to a clock and to its model, and holds their answers against each other.
func walk(t *testing.T, r *random, c *clock.Clock, m *model, ids, ticks int) {
	t.Helper()
	id := r.below(ids) - ids/2
	switch r.below(10) {
	case 0, 1, 2, 3, 4, 5:
		at := m.now + r.below(ticks+3) - 2
		checkErrno(t, "Set in a walk", c.Set(id, at), m.set(id, at))
	case 6, 7:
		checkErrno(t, "Cancel in a walk", c.Cancel(id), m.cancel(id))
	default:
		to := m.now + r.below(ticks) - ticks/3
		want, e := m.advance(to)
		got, found := c.Advance(to)
		checkErrno(t, "Advance in a walk", found, e)
		if !slices.Equal(got, want) {
			t.Fatalf("Advance(%d) in a walk = %v, not %v", to, got, want)
		}
	}
	checkHolds(t, "a walk", c, m.now, m.list())
}

// P5.1, P5.2: long walks, held against a model.
func TestWalks(t *testing.T) {
	r := seed
	for _, ids := range []int{1, 2, 5, 12, 40, 120} {
		for _, ticks := range []int{1, 2, 4, 10, 50, 1 << 30} {
			c, m := clock.New(), newModel()
			for range 2000 {
				walk(t, &r, c, m, ids, ticks)
			}
			checkComesOut(t, "a walk", c, m.list())
		}
	}
}

// P5.4: whatever was set is told once, at its moment, or was cancelled, or is still to be due; nothing else is told.
func TestToldOnce(t *testing.T) {
	r := seed
	for range 50 {
		c := clock.New()
		open := map[int]int{}
		set, told, cancelled := 0, 0, 0
		for range 400 {
			before := c.Now()
			id := r.below(30)
			switch r.below(4) {
			case 0, 1:
				at := before + 1 + r.below(20)
				if c.Set(id, at) == api.OK {
					open[id] = at
					set++
				}
			case 2:
				if c.Cancel(id) == api.OK {
					delete(open, id)
					cancelled++
				}
			case 3:
				list, _ := c.Advance(before + r.below(6))
				for _, d := range list {
					if at, ok := open[d.ID]; !ok || at != d.At || at <= before || at > c.Now() {
						t.Fatalf("%v was told from %d to %d, to be due: %d, %v", d, before, c.Now(), at, ok)
					}
					delete(open, d.ID)
					told++
				}
			}
			for id, at := range open {
				if at <= c.Now() {
					t.Fatalf("%d was to be due at %d, and not told by %d", id, at, c.Now())
				}
			}
			if set != told+cancelled+c.Left() {
				t.Fatalf("%d were set, %d told, %d cancelled, %d are left", set, told, cancelled, c.Left())
			}
		}
	}
}

// Rule 4: what one clock tells does not hang on another one.
func TestClocksApart(t *testing.T) {
	r := seed
	clocks := []*clock.Clock{clock.New(), clock.New(), clock.New()}
	models := []*model{newModel(), newModel(), newModel()}
	for range 3000 {
		at := r.below(len(clocks))
		walk(t, &r, clocks[at], models[at], 30, 10)
	}
	for i, c := range clocks {
		checkHolds(t, "clocks apart", c, models[i].now, models[i].list())
		checkComesOut(t, "clocks apart", c, models[i].list())
	}
}
