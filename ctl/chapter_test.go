package ctl_test

import (
	"fmt"
	"maps"
	"math"
	"slices"
	"testing"

	"usher/api"
	"usher/book"
	"usher/borrow"
	"usher/bounds"
	"usher/ctl"
	"usher/deal"
	"usher/demand"
	"usher/flow"
	"usher/level"
	"usher/width"
)

// random are numbers, the same ones each time.
type random uint64

func (r *random) next() uint64 {
	x := uint64(*r)
	x ^= x << 13
	x ^= x >> 7
	x ^= x << 17
	*r = random(x)
	return x
}

func (r *random) below(n int) int { return int((r.next() >> 11) % uint64(n)) }

func pick[T any](r *random, of ...T) T { return of[r.below(len(of))] }

const seed = random(88172645463325252)

// What follows is the chapter once more, by other means: the states in a map by their names.
type model struct {
	table  api.Table
	now    int
	levels map[string]api.State
	book   []api.Entry
	told   []api.Told

	settledAnew, takenAway int // how often states were taken away behind an event, and somebody started then
}

func modelOf(c api.Ctl) *model {
	m := model{table: c.Table, now: c.Now, levels: map[string]api.State{}, book: slices.Clone(c.Book)}
	for _, s := range c.Levels {
		m.levels[s.Level.Name] = s
	}
	return &m
}

func (m *model) names() []string { return slices.Sorted(maps.Keys(m.levels)) }

func (m *model) ctl() api.Ctl {
	c := api.Ctl{Table: m.table, Now: m.now, Book: m.book}
	for _, name := range m.names() {
		c.Levels = append(c.Levels, m.levels[name])
	}
	return c
}

func (m *model) tell(kind, id int, level string, seats int, why api.Errno, digest uint64) {
	m.told = append(m.told, api.Told{At: m.now, Kind: kind, ID: id, Level: level, Seats: seats, Why: why, Digest: digest})
}

// goes on to a phase, if it is a later one.
func (m *model) goes(id, phase int) {
	for i := range m.book {
		if m.book[i].ID == id {
			m.book[i].Phase = max(phase, m.book[i].Phase)
			return
		}
	}
}

func (m *model) share() {
	var names []string
	var levels []api.Level
	var wanted []api.Demand
	for _, name := range m.names() {
		s := m.levels[name]
		s.Limit, s.Bound = 0, api.Bound{}
		m.levels[name] = s
		if s.Level.Kind != 1 {
			names, levels, wanted = append(names, name), append(levels, s.Level), append(wanted, s.Demand)
		}
	}
	all, _ := bounds.Bounds(m.table.Config.Total, levels)
	limits, _ := borrow.Limits(m.table.Config.Total, all, wanted)
	for i, name := range names {
		s := m.levels[name]
		if i < len(all) {
			s.Bound = all[i]
		}
		if i < len(limits) {
			s.Limit = limits[i]
		}
		m.levels[name] = s
	}
}

func (m *model) settle(due ...string) {
	before := len(m.levels)
	maps.DeleteFunc(m.levels, func(_ string, s api.State) bool { return s.Quiet && level.Empty(s) })
	anew := len(m.levels) != before
	if anew {
		m.share()
		due = m.names()
		m.takenAway++
	}
	for _, name := range m.names() {
		if !slices.Contains(due, name) {
			continue
		}
		s, taken := level.Dispatch(m.levels[name])
		m.levels[name] = s
		for _, x := range taken {
			m.tell(1, x.ID, name, x.Seats, 0, 0)
			m.goes(x.ID, 2)
		}
		if anew && len(taken) > 0 {
			m.settledAnew++
		}
	}
	for name, s := range m.levels {
		if s.Level.Kind != 1 {
			s.Demand = demand.Note(s.Demand, level.Wants(s))
			m.levels[name] = s
		}
	}
}

func (m *model) load(x api.Table) api.Errno {
	levels := map[string]api.State{}
	for name, s := range m.levels {
		if s = level.Turn(s, s.Level, true); !level.Empty(s) {
			levels[name] = s
		}
	}
	for _, l := range x.Config.Levels {
		if s, ok := m.levels[l.Name]; ok {
			levels[l.Name] = level.Turn(s, l, false)
		} else {
			levels[l.Name] = level.Open(l)
		}
	}
	if len(levels) > 16 {
		return 7
	}
	m.table, m.levels = x, levels
	m.tell(7, 0, "", 0, 0, x.Digest)
	m.share()
	m.settle(m.names()...)
	return 0
}

func (m *model) arrive(id int, q api.Request) api.Errno {
	if id < 0 || id > 999999999 {
		return 1
	}
	if _, ok := book.Find(m.book, id); ok {
		return 5
	}
	class, e := flow.Classify(m.table, q)
	if e != 0 {
		return e
	}
	s, conf := m.levels[class.Level], m.table.Config
	x := api.Ticket{ID: id, Width: width.Seats(conf.PerSeat, conf.Most, q), Since: m.now, Until: m.now + s.Level.Wait}
	var hand []int
	if s.Level.Kind == 3 {
		hand, _ = deal.Deal(class.Flow, s.Level.Queues, s.Level.Hand)
	}
	next, e := level.Arrive(s, x, hand)
	if e != 0 {
		m.tell(2, id, class.Level, 0, e, 0)
		m.book = append(m.book, api.Entry{ID: id, Phase: 3, Level: class.Level})
		m.settle()
		return 0
	}
	m.levels[class.Level] = next
	if s.Level.Kind == 3 {
		m.book = append(m.book, api.Entry{ID: id, Phase: 1, Level: class.Level})
		m.settle(class.Level)
		return 0
	}
	m.book = append(m.book, api.Entry{ID: id, Phase: 2, Level: class.Level})
	m.tell(1, id, class.Level, slices.MaxFunc(next.Running, func(a, b api.Ticket) int {
		return slices.Index(ids(next.Running), a.ID) - slices.Index(ids(next.Running), b.ID)
	}).Seats, 0, 0)
	m.settle()
	return 0
}

func (m *model) leave(id int, done bool) api.Errno {
	x, ok := book.Find(m.book, id)
	if !ok {
		return 6
	}
	if done != (x.Phase == 2) || !done && x.Phase != 1 {
		return 9
	}
	if done {
		m.levels[x.Level], _, _ = level.Done(m.levels[x.Level], id)
		m.tell(5, id, x.Level, 0, 0, 0)
	} else {
		m.levels[x.Level], _, _ = level.Drop(m.levels[x.Level], id)
		m.tell(4, id, x.Level, 0, 0, 0)
	}
	m.goes(id, 3)
	m.settle(x.Level)
	return 0
}

func (m *model) tick() api.Errno {
	if m.now >= 1<<40 {
		return 8
	}
	m.now++
	for _, name := range m.names() {
		s, who := level.Late(m.levels[name], m.now)
		m.levels[name] = s
		for _, x := range who {
			m.tell(3, x.ID, name, 0, 0, 0)
			m.goes(x.ID, 3)
		}
	}
	if m.now%m.table.Config.Period == 0 {
		for name, s := range m.levels {
			if s.Level.Kind != 1 {
				s.Demand = demand.Turn(s.Demand, level.Wants(s))
				m.levels[name] = s
			}
		}
		m.share()
	}
	m.settle(m.names()...)
	return 0
}

// event is one of those that a controller is told.
type event struct {
	kind, id int
	request  api.Request
	table    api.Table
}

func (x event) at(c api.Ctl) (api.Ctl, []api.Told, api.Errno) {
	switch x.kind {
	case api.New:
		return ctl.Arrive(c, x.id, x.request)
	case api.Done:
		return ctl.Done(c, x.id)
	case api.Drop:
		return ctl.Drop(c, x.id)
	case api.Tick:
		return ctl.Tick(c)
	}
	return ctl.Load(c, x.table)
}

func (x event) atModel(m *model) api.Errno {
	switch x.kind {
	case api.New:
		return m.arrive(x.id, x.request)
	case api.Done:
		return m.leave(x.id, true)
	case api.Drop:
		return m.leave(x.id, false)
	case api.Tick:
		return m.tick()
	}
	return m.load(x.table)
}

// same event, of a controller and of the model: what it answers, and what it tells.
func agree(t testing.TB, c api.Ctl, x event) (api.Ctl, []api.Told, api.Errno, *model) {
	t.Helper()
	m := modelOf(c)
	next, told, e := x.at(c)
	want := x.atModel(m)
	if want != 0 {
		m = &model{}
	}
	if e != want || !slices.Equal(told, m.told) || !same(next, m.ctl()) {
		t.Fatalf("%v of %v:\n%v, %v, %v; want\n%v, %v, %v", x, c, next, told, e, m.ctl(), m.told, want)
	}
	return next, told, e, m
}

// level as a line of a configuration.
func (r *random) level(name string) string {
	switch r.below(6) {
	case 0:
		return name + " exempt"
	case 1:
		return fmt.Sprintf("%s %d %d %s reject", name, r.below(5), pick(r, 0, 50, 100), pick(r, "0", "40", "all"))
	}
	queues := 1 + r.below(4)
	return fmt.Sprintf("%s %d %d %s queue %d %d %d %d %d", name, r.below(5), pick(r, 0, 50, 100), pick(r, "0", "40", "all"),
		queues, 1+r.below(queues), 1+r.below(4), pick(r, 1+r.below(4), 5+r.below(20)), 1+r.below(10))
}

var names = [...]string{"a", "b", "d", "f", "g"}

// table of some levels; at times of as many as may be.
func (r *random) table(t testing.TB) api.Table {
	var levels []string
	for _, name := range names {
		if r.below(3) > 0 {
			levels = append(levels, r.level(name))
		}
	}
	if r.below(3) == 0 {
		levels = append(levels, fmt.Sprintf("catch-all %d %d all reject", 1+r.below(3), pick(r, 0, 30, 100)))
	}
	if r.below(12) == 0 {
		for i := range 14 - len(levels) {
			levels = append(levels, r.level(fmt.Sprintf("x%d", i+r.below(3)*20)))
		}
	}
	for i := len(levels) - 1; i > 0; i-- {
		k := r.below(i + 1)
		levels[i], levels[k] = levels[k], levels[i]
	}
	return made(t, fmt.Sprintf("total %d, period %d", pick(r, 1, 2+r.below(5), 8+r.below(30), 8+r.below(30), pick(r, 100, 4096)), pick(r, 1, 2, 3, 7)), levels...)
}

// who: somebody in that phase, mostly; or one of those that came lately, or nobody.
func (r *random) who(c api.Ctl, phase int) int {
	there := slices.DeleteFunc(slices.Clone(c.Book), func(x api.Entry) bool { return x.Phase != phase })
	if len(there) > 0 && r.below(6) > 0 {
		return there[r.below(len(there))].ID
	}
	if n := len(c.Book); n > 0 && r.below(3) > 0 {
		return c.Book[max(0, n-1-r.below(20))].ID
	}
	return pick(r, 0, 1, 2, api.MaxID, api.MaxID+1, -1, 7000+r.below(100))
}

// where to: each level of the table at times, and some that are not there.
func (r *random) request(c api.Ctl) api.Request {
	name := pick(r, names[:]...)
	if l := c.Table.Config.Levels; r.below(5) == 0 {
		name = l[r.below(len(l))].Name
	}
	q := to(name, pick(r, 1, 1+r.below(4), 1+r.below(6), 1+r.below(20), r.below(3)-1), pick(r, "u", "v", "w", "x", "y"))
	q.Verb = pick(r, "list", "list", "list", "get", "patch", "deletecollection")
	q.Space = pick(r, "", "", "s")
	return q
}

// event of each kind; of every so many of them one is a Load.
func (r *random) event(c api.Ctl, tables []api.Table, loads int) event {
	if r.below(loads) == 0 {
		return event{kind: api.Load, table: pick(r, tables...)}
	}
	switch n := r.below(20); {
	case n < 9:
		x := event{kind: api.New, id: len(c.Book) * 37 % 4001, request: r.request(c)}
		if r.below(20) == 0 {
			x.id = r.who(c, 1+r.below(3))
		}
		return x
	case n < 14:
		return event{kind: api.Done, id: r.who(c, api.Runs)}
	case n < 17:
		return event{kind: api.Drop, id: r.who(c, api.Waits)}
	}
	return event{kind: api.Tick}
}

// changed: a controller that was made by hand of another one: other limits, demands, moments.
func (r *random) changed(c api.Ctl) api.Ctl {
	c = copied(c)
	for range 1 + r.below(3) {
		s := &c.Levels[r.below(len(c.Levels))]
		switch r.below(8) {
		case 0, 1:
			s.Limit = pick(r, 0, 1+r.below(40), -1, math.MaxInt)
		case 2:
			s.Demand = api.Demand{High: r.below(50), Smooth: r.below(50)}
		case 3:
			s.Demand = api.Demand{High: pick(r, extremes[:]...), Smooth: pick(r, extremes[:]...)}
		case 4:
			s.Quiet = !s.Quiet
		case 5:
			s.Level.Kind = 1 + r.below(3)
		case 6:
			s.Fair.Open = r.below(3)
		case 7:
			c.Now = pick(r, c.Now+5, c.Now+30, api.MaxTick-1, api.MaxTick, api.MaxTick+1)
		}
	}
	return c
}

// P25.1: of many tables.
func TestNewAgainstTheChapter(t *testing.T) {
	r := seed
	for range 400 {
		x := r.table(t)
		m := model{table: x, levels: map[string]api.State{}}
		for _, l := range x.Config.Levels {
			m.levels[l.Name] = level.Open(l)
		}
		m.share()
		c := opens(t, x)
		if !same(c, m.ctl()) {
			t.Fatalf("New(%v) = %v; want %v", x, c, m.ctl())
		}
		for _, name := range append([]string{"", "c", "exempt", "catch-all"}, names[:]...) {
			if s, ok := m.levels[name]; !ok {
				stateNot(t, c, name)
			} else if got := state(t, c, name); !sameState(got, s) {
				t.Fatalf("Find(%q) = %v; want %v", name, got, s)
			}
		}
	}
}

// P25.2 to P25.5: each event of many controllers, of those that come about and of some that were made by hand.
func TestAgainstTheChapter(t *testing.T) {
	r := seed
	errs, kinds := map[api.Errno]int{}, map[[2]int]int{}
	takenAway, anew, byHand := map[int]int{}, 0, 0
	for range 150 {
		var tables []api.Table
		for range 6 {
			tables = append(tables, r.table(t))
		}
		c := ctl.New(tables[0])
		for range 300 {
			x := r.event(c, tables, 25)
			if r.below(4) == 0 {
				other := r.changed(c)
				_, told, e, _ := agree(t, other, r.event(other, tables, 6))
				if e == api.OK {
					byHand += 1 + len(told)
				}
			}
			next, told, e, m := agree(t, c, x)
			errs[e]++
			if e != api.OK {
				continue
			}
			c = next
			takenAway[x.kind] += m.takenAway
			anew += m.settledAnew
			for i, y := range told {
				kinds[[2]int{x.kind, y.Kind}]++
				if i > 0 && told[i-1].At != y.At {
					t.Fatal(told)
				}
			}
		}
	}
	for _, e := range []api.Errno{api.OK, api.ErrArg, api.ErrTwice, api.ErrNone, api.ErrFull, api.ErrState} {
		if errs[e] < 10 {
			t.Errorf("%v: %d", e, errs[e])
		}
	}
	for _, pair := range [][2]int{{api.New, api.Started}, {api.New, api.Refused}, {api.Done, api.Ended}, {api.Done, api.Started}, {api.Drop, api.Gone},
		{api.Drop, api.Started}, {api.Tick, api.Late}, {api.Tick, api.Started}, {api.Load, api.Loaded}, {api.Load, api.Started}} {
		if kinds[pair] < 8 {
			t.Errorf("event %d told %d: %d", pair[0], pair[1], kinds[pair])
		}
	}
	if takenAway[api.Done] < 50 || takenAway[api.Drop] < 5 || takenAway[api.Tick] < 5 || anew < 5 || byHand < 1000 {
		t.Errorf("taken away %v, started then %d, by hand %d", takenAway, anew, byHand)
	}
}
