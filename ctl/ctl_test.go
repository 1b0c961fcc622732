package ctl_test

import (
	"fmt"
	"math"
	"reflect"
	"slices"
	"strings"
	"testing"

	"usher/api"
	"usher/book"
	"usher/bounds"
	"usher/conf"
	"usher/ctl"
	"usher/fair"
	"usher/level"
	"usher/table"
)

// extremes are numbers that are far from all that may be.
var extremes = [...]int{math.MinInt, math.MinInt + 1, -1 << 32, -1, api.MaxID + 1, 1 << 32, 1<<32 + 1, math.MaxInt - 1, math.MaxInt}

// made: the table that layer 14 makes of a head ("total 2", "period 3", ..) and of levels ("a 5 0 0 reject", ..). Who is
// of a group that has a level's name goes there, with flows by users; who is of none goes to catch-all.
func made(t testing.TB, head string, levels ...string) api.Table {
	t.Helper()
	text := strings.ReplaceAll(head, ", ", "\n") + "\nseats 1 16\n"
	for i, l := range levels {
		name, _, _ := strings.Cut(l, " ")
		text += "level " + l + "\n"
		if name != "exempt" && name != "catch-all" {
			text += fmt.Sprintf("schema %s %s %d user\nrule - %s * * *\n", name, name, i+2, name)
		}
	}
	c, err := conf.Parse(text)
	if err != nil {
		t.Fatalf("%v of:\n%s", err, text)
	}
	x, err := table.Make(c)
	if err != nil {
		t.Fatalf("%v of:\n%s", err, text)
	}
	return x
}

// nothing: the table of nothing.
func nothing(t testing.TB) api.Table {
	t.Helper()
	x, err := table.Make(api.Config{})
	if err != nil {
		t.Fatal(err)
	}
	return x
}

// to a level: a request of so many seats; of the user u, or of that one.
func to(level string, width int, user ...string) api.Request {
	if level == "exempt" {
		level = "system:masters"
	}
	return api.Request{User: strings.Join(append(user, "u")[:1], ""), Groups: []string{level}, Verb: "list", Resource: "pods", Objects: width}
}

func started(at, id int, level string, seats int) api.Told {
	return api.Told{At: at, Kind: api.Started, ID: id, Level: level, Seats: seats}
}

func refused(at, id int, level string, why api.Errno) api.Told {
	return api.Told{At: at, Kind: api.Refused, ID: id, Level: level, Why: why}
}

func late(at, id int, level string) api.Told {
	return api.Told{At: at, Kind: api.Late, ID: id, Level: level}
}

func gone(at, id int, level string) api.Told {
	return api.Told{At: at, Kind: api.Gone, ID: id, Level: level}
}

func ended(at, id int, level string) api.Told {
	return api.Told{At: at, Kind: api.Ended, ID: id, Level: level}
}

func loaded(at int, x api.Table) api.Told {
	return api.Told{At: at, Kind: api.Loaded, Digest: x.Digest}
}

func sameLanes(a, b api.Fair) bool {
	return a.R == b.R && a.Guess == b.Guess && a.Length == b.Length && a.Open == b.Open &&
		slices.EqualFunc(a.Lanes, b.Lanes, func(l, m api.Lane) bool { return l.Start == m.Start && slices.Equal(l.Wait, m.Wait) })
}

func sameState(a, b api.State) bool {
	return a.Level == b.Level && a.Quiet == b.Quiet && a.Limit == b.Limit && a.Bound == b.Bound && a.Demand == b.Demand &&
		sameLanes(a.Fair, b.Fair) && slices.Equal(a.Running, b.Running)
}

func same(a, b api.Ctl) bool {
	return a.Now == b.Now && slices.Equal(a.Book, b.Book) && slices.EqualFunc(a.Levels, b.Levels, sameState) && reflect.DeepEqual(a.Table, b.Table)
}

func zero(c api.Ctl) bool { return same(c, api.Ctl{}) }

// copied: the same controller in memory of its own, but for the table.
func copied(c api.Ctl) api.Ctl {
	c.Book, c.Levels = slices.Clone(c.Book), slices.Clone(c.Levels)
	for i, s := range c.Levels {
		s.Running, s.Fair.Lanes = slices.Clone(s.Running), slices.Clone(s.Fair.Lanes)
		for k, l := range s.Fair.Lanes {
			s.Fair.Lanes[k].Wait = slices.Clone(l.Wait)
		}
		c.Levels[i] = s
	}
	return c
}

func waiting(s api.State) (who []api.Ticket) {
	for _, l := range s.Fair.Lanes {
		who = append(who, l.Wait...)
	}
	return who
}

// holds: what the chapter says of a controller at each time (P25.6, and the chapter's head).
func holds(t testing.TB, c api.Ctl) {
	t.Helper()
	for i, s := range c.Levels {
		if i > 0 && c.Levels[i-1].Level.Name >= s.Level.Name {
			t.Fatalf("%q stands ahead of %q", c.Levels[i-1].Level.Name, s.Level.Name)
		}
		l, ok := table.Level(c.Table, s.Level.Name)
		if s.Quiet == ok || ok && s.Level != l || s.Quiet && level.Empty(s) {
			t.Fatalf("%v under %v", s, l)
		}
	}
	for _, l := range c.Table.Config.Levels {
		if _, ok := ctl.Find(c, l.Name); !ok {
			t.Fatalf("no state of %q: %v", l.Name, c.Levels)
		}
	}
	limitsHold(t, c)
	bookHolds(t, c)
	nobodyIsLeft(t, c)
}

// limitsHold: they are together the total, each between its bounds, which are those of layer 18; Exempt has none.
func limitsHold(t testing.TB, c api.Ctl) {
	t.Helper()
	var levels []api.Level
	var all []api.Bound
	sum := 0
	for _, s := range c.Levels {
		if s.Level.Kind == api.Exempt {
			if s.Limit != 0 || s.Bound != (api.Bound{}) {
				t.Fatalf("exempt, with a limit: %v", s)
			}
			continue
		}
		if s.Limit < s.Bound.Min || s.Limit > s.Bound.Max || s.Demand.High < level.Wants(s) {
			t.Fatalf("%q has %d of %v, wants %d, %v", s.Level.Name, s.Limit, s.Bound, level.Wants(s), s.Demand)
		}
		levels, all, sum = append(levels, s.Level), append(all, s.Bound), sum+s.Limit
	}
	if want, e := bounds.Bounds(c.Table.Config.Total, levels); e != api.OK || !slices.Equal(all, want) || sum != c.Table.Config.Total {
		t.Fatalf("bounds %v; want %v, %v; limits of %d in all, of %d", all, want, e, sum, c.Table.Config.Total)
	}
}

// bookHolds: each request is in its level's state as its entry says, once, and nobody else is there.
func bookHolds(t testing.TB, c api.Ctl) {
	t.Helper()
	there := map[api.Entry]int{}
	for _, s := range c.Levels {
		for _, x := range waiting(s) {
			there[api.Entry{ID: x.ID, Phase: api.Waits, Level: s.Level.Name}]++
		}
		for _, x := range s.Running {
			there[api.Entry{ID: x.ID, Phase: api.Runs, Level: s.Level.Name}]++
		}
	}
	ids := map[int]bool{}
	for _, x := range c.Book {
		if n := there[x]; ids[x.ID] || x.Phase == api.Over && n != 0 || x.Phase != api.Over && n != 1 {
			t.Fatalf("%v is there %d times: %v", x, n, c)
		}
		ids[x.ID] = true
		delete(there, x)
	}
	if len(there) > 0 {
		t.Fatalf("not in the book: %v", there)
	}
}

// nobodyIsLeft who may go and waits as the next one, or who has waited up to Until.
func nobodyIsLeft(t testing.TB, c api.Ctl) {
	t.Helper()
	for _, s := range c.Levels {
		if i, ok := fair.Next(s.Fair); ok {
			if _, fits := level.Fits(s, s.Fair.Lanes[i].Wait[0].Width); fits {
				t.Fatalf("in lane %d somebody fits: %v", i, s)
			}
		}
		for _, x := range waiting(s) {
			if x.Until <= c.Now || x.Since > c.Now || x.Seats != 0 {
				t.Fatalf("%v waits at %d", x, c.Now)
			}
		}
	}
}

// is what an event answers: OK, and told just this.
func is(t testing.TB, what string, told, want []api.Told, e api.Errno) {
	t.Helper()
	if e != api.OK || !slices.Equal(told, want) {
		t.Fatalf("%s tells %v, %v; want %v", what, told, e, want)
	}
}

func opens(t testing.TB, x api.Table) api.Ctl {
	t.Helper()
	c := ctl.New(x)
	holds(t, c)
	return c
}

func arrives(t testing.TB, c api.Ctl, id int, q api.Request, want ...api.Told) api.Ctl {
	t.Helper()
	next, told, e := ctl.Arrive(c, id, q)
	is(t, fmt.Sprintf("Arrive(%d, %v)", id, q), told, want, e)
	holds(t, next)
	return next
}

func done(t testing.TB, c api.Ctl, id int, want ...api.Told) api.Ctl {
	t.Helper()
	next, told, e := ctl.Done(c, id)
	is(t, fmt.Sprintf("Done(%d)", id), told, want, e)
	holds(t, next)
	return next
}

func drops(t testing.TB, c api.Ctl, id int, want ...api.Told) api.Ctl {
	t.Helper()
	next, told, e := ctl.Drop(c, id)
	is(t, fmt.Sprintf("Drop(%d)", id), told, want, e)
	holds(t, next)
	return next
}

func ticks(t testing.TB, c api.Ctl, want ...api.Told) api.Ctl {
	t.Helper()
	next, told, e := ctl.Tick(c)
	is(t, fmt.Sprintf("Tick at %d", c.Now), told, want, e)
	holds(t, next)
	return next
}

func loads(t testing.TB, c api.Ctl, x api.Table, want ...api.Told) api.Ctl {
	t.Helper()
	next, told, e := ctl.Load(c, x)
	is(t, "Load", told, append([]api.Told{loaded(c.Now, x)}, want...), e)
	holds(t, next)
	return next
}

// fails: an error, with nothing beside it, and what was handed in as it was.
func fails(t testing.TB, c api.Ctl, want api.Errno, call func(api.Ctl) (api.Ctl, []api.Told, api.Errno)) {
	t.Helper()
	before := copied(c)
	if next, told, e := call(c); e != want || len(told) > 0 || !zero(next) {
		t.Errorf("%v, %v, %v; want %v", next, told, e, want)
	}
	if !same(c, before) {
		t.Errorf("%v was left of %v", c, before)
	}
}

func arrivesNot(t testing.TB, c api.Ctl, id int, q api.Request, want api.Errno) {
	t.Helper()
	fails(t, c, want, func(c api.Ctl) (api.Ctl, []api.Told, api.Errno) { return ctl.Arrive(c, id, q) })
}

func doneNot(t testing.TB, c api.Ctl, id int, want api.Errno) {
	t.Helper()
	fails(t, c, want, func(c api.Ctl) (api.Ctl, []api.Told, api.Errno) { return ctl.Done(c, id) })
}

func dropsNot(t testing.TB, c api.Ctl, id int, want api.Errno) {
	t.Helper()
	fails(t, c, want, func(c api.Ctl) (api.Ctl, []api.Told, api.Errno) { return ctl.Drop(c, id) })
}

func loadsNot(t testing.TB, c api.Ctl, x api.Table, want api.Errno) {
	t.Helper()
	fails(t, c, want, func(c api.Ctl) (api.Ctl, []api.Told, api.Errno) { return ctl.Load(c, x) })
}

// state of a level that is there.
func state(t testing.TB, c api.Ctl, name string) api.State {
	t.Helper()
	s, ok := ctl.Find(c, name)
	if !ok || s.Level.Name != name {
		t.Fatalf("Find(%q) = %v, %t", name, s, ok)
	}
	return s
}

// stateNot: there is none.
func stateNot(t testing.TB, c api.Ctl, name string) {
	t.Helper()
	if s, ok := ctl.Find(c, name); ok || !sameState(s, api.State{}) {
		t.Fatalf("Find(%q) = %v, %t", name, s, ok)
	}
}

// phase of a request that is in the book.
func phase(t testing.TB, c api.Ctl, id, want int, level string) {
	t.Helper()
	if x, ok := book.Find(c.Book, id); !ok || x != (api.Entry{ID: id, Phase: want, Level: level}) {
		t.Fatalf("the entry of %d is %v, %t; want %d of %q", id, x, ok, want, level)
	}
}

// limits of all states, as "name limit nominal min max", and quiet ones with a q behind it.
func limits(t testing.TB, c api.Ctl, want ...string) {
	t.Helper()
	var all []string
	for _, s := range c.Levels {
		text := fmt.Sprint(s.Level.Name, " ", s.Limit, s.Bound.Nominal, s.Bound.Min, s.Bound.Max)
		if s.Quiet {
			text += " q"
		}
		all = append(all, text)
	}
	if !slices.Equal(all, want) {
		t.Fatalf("limits %q; want %q", all, want)
	}
}

// demands of a level.
func demands(t testing.TB, c api.Ctl, name string, high, smooth int) {
	t.Helper()
	if d := state(t, c, name).Demand; d != (api.Demand{High: high, Smooth: smooth}) {
		t.Fatalf("at %d the demand of %q is %v; want %d, %d", c.Now, name, d, high, smooth)
	}
}

// ids of tickets.
func ids(who []api.Ticket) (list []int) {
	for _, x := range who {
		list = append(list, x.ID)
	}
	return list
}

// stand: who runs in a level, and who waits there, lane by lane.
func stand(t testing.TB, c api.Ctl, name string, runs, waits []int) {
	t.Helper()
	if s := state(t, c, name); !slices.Equal(ids(s.Running), runs) || !slices.Equal(ids(waiting(s)), waits) {
		t.Fatalf("in %q run %v, wait %v; want %v, %v", name, ids(s.Running), ids(waiting(s)), runs, waits)
	}
}

// The chapter's example.
func TestExample(t *testing.T) {
	c := opens(t, nothing(t))
	limits(t, c, "catch-all 100 100 100 100", "exempt 0 0 0 0")
	c = arrives(t, c, 1, api.Request{User: "u", Verb: "get"}, started(0, 1, "catch-all", 1))
	done(t, c, 1, ended(0, 1, "catch-all"))
}

// The example of the whole document: one starts, two wait, the fourth is refused; the second is late.
func TestExampleOfTheWhole(t *testing.T) {
	c := opens(t, made(t, "total 2", "a 5 0 0 queue 1 1 2 3 1"))
	limits(t, c, "a 1 1 1 1", "catch-all 1 1 1 2", "exempt 0 0 0 0")
	c = arrives(t, c, 1, to("a", 1), started(0, 1, "a", 1))
	c = arrives(t, c, 2, to("a", 1))
	c = arrives(t, c, 3, to("a", 1))
	c = arrives(t, c, 4, to("a", 1), refused(0, 4, "a", api.ErrFull))
	c = ticks(t, ticks(t, drops(t, c, 3, gone(0, 3, "a"))))
	c = ticks(t, c, late(3, 2, "a"))
	done(t, c, 1, ended(3, 1, "a"))
}

// P25.1: no entries, the moment 0, an open level of each one of the table, by their names, and their seats.
func TestNew(t *testing.T) {
	x := made(t, "total 20, period 7", "q 2 50 100 queue 3 2 4 5 6", "r 1 0 all reject", "e exempt", "exempt exempt", "catch-all 1 100 0 reject", "b exempt")
	c := opens(t, x)
	if c.Now != 0 || len(c.Book) > 0 || !reflect.DeepEqual(c.Table, x) {
		t.Errorf("New: %v", c)
	}
	limits(t, c, "b 0 0 0 0", "catch-all 5 5 0 5", "e 0 0 0 0", "exempt 0 0 0 0", "q 8 10 5 20", "r 7 5 5 20")
	for i, l := range x.Config.Levels {
		want := level.Open(l)
		want.Limit, want.Bound = c.Levels[i].Limit, c.Levels[i].Bound
		if !sameState(c.Levels[i], want) {
			t.Errorf("%v; want %v", c.Levels[i], want)
		}
	}
	if s := state(t, c, "q"); len(s.Fair.Lanes) != 3 || s.Fair.Length != 4 || s.Fair.Guess != 6 {
		t.Errorf("%v", s)
	}
}

// P25.1: with a total of 1 and with the largest one, with shares of 0, with as many levels as may be.
func TestNewOfTotals(t *testing.T) {
	limits(t, opens(t, made(t, "total 1", "a 1 0 0 reject", "z 9 0 all queue 1 1 1 1 1")), "a 0 0 0 0", "catch-all 0 0 0 1", "exempt 0 0 0 0", "z 1 1 1 1")
	limits(t, opens(t, made(t, "total 1", "catch-all 1 100 all reject", "z 1 0 all reject")), "catch-all 1 1 0 1", "exempt 0 0 0 0", "z 0 0 0 1")
	limits(t, opens(t, made(t, "total 4096", "a 10000 0 0 reject", "b 0 0 1000 reject", "catch-all 10000 100 1000 reject", "exempt exempt")),
		"a 2048 2048 2048 2048", "b 0 0 0 0", "catch-all 2048 2048 0 4096", "exempt 0 0 0 0")
	var levels []string
	for i := range 14 {
		levels = append(levels, fmt.Sprintf("l%02d 1 50 50 queue 64 1 64 1000 1000", 13-i))
	}
	c := opens(t, made(t, "total 4096", levels...))
	if len(c.Levels) != api.MaxLevels {
		t.Errorf("%d levels", len(c.Levels))
	}
	all := slices.Repeat([]string{"exempt exempt"}, 1)
	for i := range 14 {
		all = append(all, fmt.Sprintf("e%02d exempt", i))
	}
	c = opens(t, made(t, "total 3", all...))
	limits(t, c, append([]string{"catch-all 3 3 3 3"}, exempts(c)...)...)
}

// exempts: the lines that limits wants of the exempt levels of a controller whose first one is none.
func exempts(c api.Ctl) (list []string) {
	for _, s := range c.Levels[1:] {
		list = append(list, s.Level.Name+" 0 0 0 0")
	}
	return list
}

// P25.1: a table that layer 14 did not make: its states are by rising names all the same, no two of one name.
func TestNewOfOtherTables(t *testing.T) {
	if c := ctl.New(api.Table{}); !zero(c) {
		t.Errorf("New of a zero table: %v", c)
	}
	x := made(t, "total 20", "a 1 0 0 reject", "b 2 0 0 reject")
	slices.Reverse(x.Config.Levels)
	limits(t, opens(t, x), "a 3 3 3 3", "b 5 5 5 5", "catch-all 12 12 12 20", "exempt 0 0 0 0")
	x.Config.Levels = append(x.Config.Levels, api.Level{Name: "b", Kind: api.Queue, Shares: 7})
	limits(t, ctl.New(x), "a 3 3 3 3", "b 5 5 5 5", "catch-all 12 12 12 20", "exempt 0 0 0 0")
	// Where layer 18 refuses there are no seats.
	for _, total := range []int{-1, 4097, math.MinInt, math.MaxInt} {
		x.Config.Total = total
		seatless(t, x)
	}
	x.Config.Total, x.Config.Levels[1].Lend = 20, 101
	seatless(t, x)
}

func seatless(t *testing.T, x api.Table) {
	t.Helper()
	for _, s := range ctl.New(x).Levels {
		if s.Limit != 0 || s.Bound != (api.Bound{}) {
			t.Errorf("of %d seats: %v", x.Config.Total, s)
		}
	}
}

// P25.1: Find by the whole name, of all that are there.
func TestFind(t *testing.T) {
	c := opens(t, made(t, "total 20", "a 1 0 0 reject", "aa exempt", "b 2 0 0 queue 2 1 1 1 1"))
	for _, s := range c.Levels {
		if got := state(t, c, s.Level.Name); !sameState(got, s) {
			t.Errorf("%v; want %v", got, s)
		}
	}
	for _, name := range []string{"", "A", "aaa", "c", "catch", "exempt ", "u", "\x00"} {
		stateNot(t, c, name)
	}
	stateNot(t, api.Ctl{}, "")
	stateNot(t, api.Ctl{}, "a")
	// Of two of one name, as only a controller made by hand has them, the first one.
	c.Levels = append(c.Levels, api.State{Level: api.Level{Name: "b", Shares: 77}})
	if s := state(t, c, "b"); s.Level.Shares != 2 {
		t.Errorf("%v", s)
	}
}

// P25.3: which error, where several would be: of the ID, of the book, of the schemas.
func TestArriveErrs(t *testing.T) {
	x := made(t, "total 8", "q 1 0 0 queue 1 1 1 5 1")
	c := opens(t, x)
	c = arrives(t, c, 0, to("q", 1), started(0, 0, "q", 1))
	c = arrives(t, c, 1, to("q", 1))
	c = arrives(t, c, 2, to("q", 1), refused(0, 2, "q", api.ErrFull))
	c = arrives(t, c, api.MaxID, to("", 1), started(0, api.MaxID, "catch-all", 1))
	none := c
	none.Table.Config.Schemas = nil
	for _, id := range extremes {
		arrivesNot(t, c, id, to("q", 1), api.ErrArg)
		arrivesNot(t, none, id, to("q", 1), api.ErrArg)
		known := copied(c)
		known.Book = append(known.Book, api.Entry{ID: id, Phase: api.Waits, Level: "q"})
		arrivesNot(t, known, id, to("q", 1), api.ErrArg)
	}
	for _, id := range []int{0, 1, 2, api.MaxID} {
		for _, name := range []string{"q", "", "exempt", "nobody"} {
			arrivesNot(t, c, id, to(name, 1), api.ErrTwice)
			arrivesNot(t, none, id, to(name, 1), api.ErrTwice)
		}
	}
	for _, id := range []int{3, 4, 77, api.MaxID - 1} {
		arrivesNot(t, none, id, to("q", 1), api.ErrNone)
		arrives(t, c, id, to("", 1), started(0, id, "catch-all", 1))
	}
	arrivesNot(t, api.Ctl{}, 0, api.Request{}, api.ErrNone)
	arrivesNot(t, api.Ctl{}, -1, api.Request{}, api.ErrArg)
	// A controller made by hand that lacks the level.
	c.Levels = c.Levels[:1]
	arrivesNot(t, c, 3, to("q", 1), api.ErrNone)
}

// P25.3: who starts at once: in each kind of level, with the seats that it has, and its entry.
func TestArriveStarts(t *testing.T) {
	c := opens(t, made(t, "total 9", "e exempt", "q 1 0 0 queue 2 1 3 5 4", "r 1 0 0 reject", "catch-all 1 0 0 reject"))
	limits(t, c, "catch-all 3 3 3 3", "e 0 0 0 0", "exempt 0 0 0 0", "q 3 3 3 3", "r 3 3 3 3")
	c.Now = 40
	for i, x := range []struct {
		name         string
		width, seats int
	}{{"e", 16, 16}, {"exempt", 3, 3}, {"q", 2, 2}, {"r", 5, 3}, {"catch-all", 1, 1}, {"e", 99, 16}, {"catch-all", 2, 2}, {"q", 1, 1}} {
		c = arrives(t, c, i, to(x.name, x.width), started(40, i, x.name, x.seats))
		phase(t, c, i, api.Runs, x.name)
		s, until := state(t, c, x.name), 40
		if x.name == "q" {
			until = 45
		}
		last := s.Running[len(s.Running)-1]
		if want := (api.Ticket{ID: i, Width: min(x.width, 16), Seats: x.seats, Since: 40, Until: until}); last != want {
			t.Errorf("%v runs; want %v", last, want)
		}
	}
	if len(c.Book) != 8 || c.Now != 40 {
		t.Errorf("%v", c)
	}
}

// P25.3: who waits: nothing is told, its entry waits, and so does its ticket, in a lane of its hand.
func TestArriveWaits(t *testing.T) {
	c := opens(t, made(t, "total 4", "q 1 0 0 queue 3 1 3 50 4", "catch-all 3 0 0 reject"))
	c.Now = 7
	c = arrives(t, c, 5, to("q", 4), started(7, 5, "q", 1))
	c = arrives(t, c, 3, to("q", 4, "ann"))
	c = arrives(t, c, 4, to("q", 0, "ben"))
	for _, want := range []api.Ticket{{ID: 3, Width: 4, Since: 7, Until: 57}, {ID: 4, Width: 1, Since: 7, Until: 57}} {
		phase(t, c, want.ID, api.Waits, "q")
		if !slices.Contains(waiting(state(t, c, "q")), want) {
			t.Errorf("%v waits not: %v", want, state(t, c, "q"))
		}
	}
	demands(t, c, "q", 6, 0)
	demands(t, c, "catch-all", 0, 0)
	// The same user comes to the same lane each time, another one may come to another one.
	lanes := map[int]bool{}
	for _, user := range []string{"a", "b", "c", "d", "e", "f"} {
		first := slices.IndexFunc(state(t, arrives(t, c, 9, to("q", 1, user)), "q").Fair.Lanes, has(9))
		again := slices.IndexFunc(state(t, arrives(t, c, 8, to("q", 2, user)), "q").Fair.Lanes, has(8))
		if first != again || first < 0 {
			t.Errorf("%q is in lane %d, and in lane %d", user, first, again)
		}
		lanes[first] = true
	}
	if len(lanes) < 2 {
		t.Errorf("all are in lane %v", lanes)
	}
}

// has somebody of that ID.
func has(id int) func(api.Lane) bool {
	return func(l api.Lane) bool { return slices.Contains(ids(l.Wait), id) }
}

// P25.3: the width is that of the table's numbers.
func TestArriveWidth(t *testing.T) {
	x := nothing(t)
	x.Config.PerSeat, x.Config.Most = 100, 3
	c := opens(t, x)
	for i, q := range []api.Request{{Verb: "get", Objects: 900}, {Verb: "list", Objects: 150}, {Verb: "list", Objects: 150, Space: "s"}, {Verb: "list", Objects: 1000}, {Verb: "patch", Objects: 101}, {Verb: "deletecollection"}} {
		c = arrives(t, c, i, q, started(0, i, "catch-all", []int{1, 2, 1, 3, 2, 2}[i]))
	}
}

// refuses who comes: one is told, its entry is over, and the level stays as it was.
func refuses(t *testing.T, c api.Ctl, id int, q api.Request, name string, why api.Errno) {
	t.Helper()
	next, told, e := ctl.Arrive(c, id, q)
	is(t, "Arrive", told, []api.Told{refused(c.Now, id, name, why)}, e)
	phase(t, next, id, api.Over, name)
	if len(next.Book) != len(c.Book)+1 || next.Book[len(c.Book)].ID != id || !sameState(state(t, c, name), state(t, next, name)) {
		t.Errorf("%v became %v", c, next)
	}
	arrivesNot(t, next, id, q, api.ErrTwice)
	doneNot(t, next, id, api.ErrState)
	dropsNot(t, next, id, api.ErrState)
}

// P25.3: refused for each Why.
func TestArriveRefused(t *testing.T) {
	c := opens(t, made(t, "total 9", "q 1 0 0 queue 1 1 2 5 4", "r 1 0 0 reject", "z 0 0 0 reject", "y 0 0 0 queue 1 1 1 5 5", "catch-all 1 0 0 reject"))
	c.Now = 12
	refuses(t, c, 1, to("z", 1), "z", api.ErrFull)
	c = arrives(t, c, 50, to("y", 1))
	refuses(t, c, 1, to("y", 1), "y", api.ErrFull)
	c = arrives(t, c, 51, to("r", 1), started(12, 51, "r", 1))
	refuses(t, c, 1, to("r", 3), "r", api.ErrFull)
	c = arrives(t, c, 52, to("r", 2), started(12, 52, "r", 2))
	refuses(t, c, 0, to("r", 1), "r", api.ErrFull)
	for i := range 3 {
		c = arrives(t, c, i, to("q", 3), [][]api.Told{{started(12, 0, "q", 3)}, nil, nil}[i]...)
	}
	refuses(t, c, api.MaxID, to("q", 1), "q", api.ErrFull)
	refuses(t, c, 9, to("q", 1, "somebody else"), "q", api.ErrFull)
	// Levels that no table of layer 14 has: quiet, without lanes, and with a hand that may not be dealt.
	quiet, shut, dealt := copied(c), copied(c), copied(c)
	i := slices.IndexFunc(c.Levels, func(s api.State) bool { return s.Level.Name == "q" })
	quiet.Levels[i].Quiet = true
	refuses(t, quiet, 9, to("q", 1), "q", api.ErrState)
	shut.Levels[i].Fair.Open = 0
	refuses(t, shut, 9, to("q", 1), "q", api.ErrNone)
	dealt.Levels[i].Level.Hand = 2
	refuses(t, dealt, 9, to("q", 1), "q", api.ErrNone)
}

// P25.3: the event is settled: of another level that somebody comes to nobody is dispatched.
func TestArriveDispatchesItsLevelAlone(t *testing.T) {
	c := opens(t, made(t, "total 9", "p 1 0 0 queue 1 1 5 5 4", "q 1 0 0 queue 1 1 5 5 4", "r 1 0 0 reject"))
	c = arrives(t, c, 1, to("q", 1), started(0, 1, "q", 1))
	c = arrives(t, c, 2, to("q", 1))
	c = arrives(t, c, 3, to("q", 1))
	i := slices.IndexFunc(c.Levels, func(s api.State) bool { return s.Level.Name == "q" })
	c.Levels[i].Limit = 2
	for _, name := range []string{"p", "r", "catch-all", "exempt"} {
		_, told, e := ctl.Arrive(c, 9, to(name, 1))
		is(t, "Arrive", told, []api.Told{started(0, 9, name, 1)}, e)
	}
	_, told, e := ctl.Arrive(c, 9, to("q", 1))
	is(t, "Arrive", told, []api.Told{started(0, 2, "q", 1)}, e)
	c.Levels[i].Limit = 9
	_, told, e = ctl.Arrive(c, 9, to("q", 1))
	is(t, "Arrive", told, []api.Told{started(0, 2, "q", 1), started(0, 3, "q", 1), started(0, 9, "q", 1)}, e)
}

// phases: somebody of each phase, in a controller at 5: 1 runs, 2 waits, 3 was refused, 4 is done, 5 was dropped, 6 was late.
func phases(t *testing.T) api.Ctl {
	t.Helper()
	c := opens(t, made(t, "total 2", "q 1 0 0 queue 1 1 2 5 4", "catch-all 1 0 0 reject"))
	c = arrives(t, c, 4, to("q", 1), started(0, 4, "q", 1))
	c = arrives(t, c, 1, to("q", 1))
	c = done(t, c, 4, ended(0, 4, "q"), started(0, 1, "q", 1))
	c = arrives(t, c, 6, to("q", 1))
	c = arrives(t, c, 5, to("q", 1))
	c = arrives(t, c, 3, to("q", 1), refused(0, 3, "q", api.ErrFull))
	c = drops(t, c, 5, gone(0, 5, "q"))
	for range 4 {
		c = ticks(t, c)
	}
	c = arrives(t, c, 2, to("q", 1))
	c = ticks(t, c, late(5, 6, "q"))
	for id, want := range []int{1: api.Runs, 2: api.Waits, 3: api.Over, 4: api.Over, 5: api.Over, 6: api.Over} {
		if id > 0 {
			phase(t, c, id, want, "q")
		}
	}
	return c
}

// P25.4: Done of who runs alone, Drop of who waits alone; who is over stays so; who was never there is not there.
func TestLeave(t *testing.T) {
	c := phases(t)
	for id := 2; id <= 6; id++ {
		doneNot(t, c, id, api.ErrState)
	}
	for _, id := range []int{1, 3, 4, 5, 6} {
		dropsNot(t, c, id, api.ErrState)
	}
	for _, id := range append([]int{0, 7, 99, api.MaxID}, extremes[:]...) {
		doneNot(t, c, id, api.ErrNone)
		dropsNot(t, c, id, api.ErrNone)
		doneNot(t, api.Ctl{}, id, api.ErrNone)
		dropsNot(t, api.Ctl{}, id, api.ErrNone)
	}
	dropped := drops(t, c, 2, gone(5, 2, "q"))
	phase(t, dropped, 2, api.Over, "q")
	stand(t, dropped, "q", []int{1}, nil)
	dropsNot(t, dropped, 2, api.ErrState)
	doneNot(t, dropped, 2, api.ErrState)
	through := done(t, c, 1, ended(5, 1, "q"), started(5, 2, "q", 1))
	phase(t, through, 1, api.Over, "q")
	phase(t, through, 2, api.Runs, "q")
	stand(t, through, "q", []int{2}, nil)
	doneNot(t, through, 1, api.ErrState)
	dropsNot(t, through, 2, api.ErrState)
	through = done(t, through, 2, ended(5, 2, "q"))
	stand(t, through, "q", nil, nil)
	if waits, runs, over := book.Count(through.Book); waits != 0 || runs != 0 || over != 6 {
		t.Errorf("%v", through.Book)
	}
}

// P25.4: of other kinds, too.
func TestDoneInEachKind(t *testing.T) {
	c := opens(t, made(t, "total 9", "e exempt", "q 1 0 0 queue 2 1 3 5 4", "r 1 0 0 reject"))
	names := []string{"e", "exempt", "q", "r", "catch-all"}
	for i, name := range names {
		c = arrives(t, c, i, to(name, 1), started(0, i, name, 1))
	}
	for i, name := range names {
		dropsNot(t, c, i, api.ErrState)
		c = done(t, c, i, ended(0, i, name))
		stand(t, c, name, nil, nil)
	}
}

// Rule 1: entries that say otherwise than the states, as only a controller made by hand has them.
func TestLeaveOfOtherBooks(t *testing.T) {
	c := phases(t)
	c.Book = append(slices.Clone(c.Book), api.Entry{ID: 7, Phase: api.Runs, Level: "q"}, api.Entry{ID: 8, Phase: api.Waits, Level: "q"},
		api.Entry{ID: 9, Phase: api.Runs, Level: "nowhere"}, api.Entry{ID: 10, Phase: api.Waits, Level: "nowhere"}, api.Entry{ID: -1, Phase: 7, Level: "q"})
	for _, id := range []int{7, 9} {
		doneNot(t, c, id, api.ErrNone)
		dropsNot(t, c, id, api.ErrState)
	}
	for _, id := range []int{8, 10} {
		dropsNot(t, c, id, api.ErrNone)
		doneNot(t, c, id, api.ErrState)
	}
	doneNot(t, c, -1, api.ErrState)
	dropsNot(t, c, -1, api.ErrState)
}

// P25.4: behind a Done the next ones start, as many as fit, in the order in which they are taken; behind a Drop who
// waited behind a wide one.
func TestNextStarts(t *testing.T) {
	c := opens(t, made(t, "total 10", "q 5 0 0 queue 1 1 9 9 4", "catch-all 5 0 0 reject"))
	for i, width := range []int{4, 3, 2, 1, 5, 1} {
		c = arrives(t, c, 10-i, to("q", width), [][]api.Told{{started(0, 10, "q", 4)}, nil, nil, nil, nil, nil}[i]...)
	}
	stand(t, c, "q", []int{10}, []int{9, 8, 7, 6, 5})
	// 9 goes, and what is left over is not too much for 7.
	first := done(t, c, 10, ended(0, 10, "q"), started(0, 9, "q", 3), started(0, 8, "q", 2))
	stand(t, first, "q", []int{9, 8}, []int{7, 6, 5})
	first = done(t, first, 8, ended(0, 8, "q"), started(0, 7, "q", 1))
	// The width of 6 does not fit till all are through.
	first = done(t, first, 9, ended(0, 9, "q"))
	first = done(t, first, 7, ended(0, 7, "q"), started(0, 6, "q", 5))
	done(t, first, 6, ended(0, 6, "q"), started(0, 5, "q", 1))
	// Without 9 and 8 the 7 goes beside 10.
	second := drops(t, c, 9, gone(0, 9, "q"))
	second = drops(t, second, 8, gone(0, 8, "q"), started(0, 7, "q", 1))
	stand(t, second, "q", []int{10, 7}, []int{6, 5})
	second = drops(t, second, 5, gone(0, 5, "q"))
	drops(t, second, 6, gone(0, 6, "q"))
}
