package rules_test

import (
	"fmt"
	"math"
	"reflect"
	"slices"
	"strings"
	"testing"

	"usher/api"
	"usher/conf"
	"usher/fault"
	"usher/fill"
	"usher/print"
	"usher/rules"
)

// random are numbers, the same ones each time.
type random uint64

func (r *random) next() uint64 {
	x := uint64(*r)
	x ^= x << 13
	x ^= x >> 7
	x ^= x << 17
	*r = random(x)
	return x
}

func (r *random) below(n int) int { return int((r.next() >> 11) % uint64(n)) }

// one in n times.
func (r *random) one(n int) bool { return r.below(n) == 0 }

func pick[T any](r *random, of ...T) T { return of[r.below(len(of))] }

const seed = random(88172645463325252)

// copyOf a configuration shares nothing with it, and has nil in place of each empty list.
func copyOf(c api.Config) api.Config {
	c.Levels = append([]api.Level(nil), c.Levels...)
	c.Schemas = append([]api.Schema(nil), c.Schemas...)
	for i := range c.Schemas {
		c.Schemas[i].Rules = append([]api.Rule(nil), c.Schemas[i].Rules...)
		for j := range c.Schemas[i].Rules {
			for _, l := range listsOf(&c.Schemas[i].Rules[j]) {
				*l = append([]string(nil), *l...)
			}
		}
	}
	return c
}

func listsOf(r *api.Rule) []*[]string {
	return []*[]string{&r.Users, &r.Groups, &r.Verbs, &r.Resources, &r.Spaces}
}

// same: nil and empty lists are.
func same(a, b api.Config) bool { return reflect.DeepEqual(copyOf(a), copyOf(b)) }

// What follows is the chapter once more: all errors that a configuration has, in the order of the list.

type told struct {
	what string
	e    api.Errno
}

// handsError tells how many hands there are by numbers that can't run over.
func handsError(deck, n int) api.Errno {
	if deck < 1 || deck > 64 || n < 1 || n > 8 {
		return 1
	}
	if n > deck {
		return 8
	}
	count := 1.0
	for card := range n {
		count *= float64(deck - card)
	}
	if count > math.Exp2(40) {
		return 10
	}
	return 0
}

func ofNumbers(c api.Config) []told {
	var all []told
	for i, n := range []int{c.Total, c.Period, c.PerSeat} {
		if n == 0 {
			all = append(all, told{[]string{"total", "period", "seats"}[i], 12})
		}
	}
	return all
}

func ofLevel(l api.Level) []told {
	var all []told
	if e := handsError(l.Queues, l.Hand); e != 0 && l.Kind == 3 {
		all = append(all, told{"level " + l.Name, e})
	}
	if l.Name == "exempt" && l.Kind != 1 || l.Name == "catch-all" && (l.Kind == 1 || l.Shares == 0) {
		all = append(all, told{"level " + l.Name, 11})
	}
	return all
}

func ofSchema(s api.Schema, levels map[string]int) []told {
	var all []told
	if levels[s.Level] == 0 {
		all = append(all, told{"schema " + s.Name, 6})
	}
	ofAll := 0
	for _, r := range s.Rules {
		if fmt.Sprintf("%q%q%q%q", r.Users, r.Verbs, r.Resources, r.Spaces) == `["*"]["*"]["*"]["*"]` {
			ofAll++
		}
	}
	if s.Name == "exempt" && (s.Level != "exempt" || s.Rank != 1) ||
		s.Name == "catch-all" && (s.Level != "catch-all" || s.Rank != 10000 || ofAll == 0) {
		all = append(all, told{"schema " + s.Name, 11})
	}
	return all
}

func errorsOf(c api.Config) []told {
	var all []told
	if !print.Formed(c) {
		all = append(all, told{"", 2})
	}
	all = append(all, ofNumbers(c)...)
	levels, schemas := map[string]int{}, map[string]int{}
	for _, l := range c.Levels {
		levels[l.Name]++
		all = append(all, ofLevel(l)...)
	}
	for _, s := range c.Schemas {
		schemas[s.Name]++
		all = append(all, ofSchema(s, levels)...)
	}
	for _, name := range []string{"exempt", "catch-all"} {
		if levels[name] == 0 {
			all = append(all, told{"level " + name, 12})
		}
	}
	for _, name := range []string{"exempt", "catch-all"} {
		if schemas[name] == 0 {
			all = append(all, told{"schema " + name, 12})
		}
	}
	return all
}

// refuses: the answer is this error, just one fault around a number.
func refuses(t *testing.T, c api.Config, what string, e api.Errno) {
	t.Helper()
	err := rules.Check(c)
	if err != error(fault.Fault{What: what, Err: e}) {
		t.Errorf("%+v: %#v; want %d of %q", c, err, e, what)
		return
	}
	if fault.Code(err) != e || fault.What(err) != what || fault.Line(err) != 0 || !fault.Is(err, e) {
		t.Errorf("%+v: %d of %q, line %d; want %d of %q", c, fault.Code(err), fault.What(err), fault.Line(err), e, what)
	}
	text := fmt.Sprintf("%s: error %d", what, int(e))
	if what == "" {
		text = fmt.Sprintf("error %d", int(e))
	}
	if err.Error() != text {
		t.Errorf("%+v: told as %q; want %q", c, err.Error(), text)
	}
}

// passes: the answer is nil, and there is what P13.2 says.
func passes(t *testing.T, c api.Config) {
	t.Helper()
	if err := rules.Check(c); err != nil {
		t.Errorf("%+v: %v; want none", c, err)
		return
	}
	if c.Total < 1 || c.Period < 1 || c.PerSeat < 1 || c.Most < 1 {
		t.Errorf("%+v: a number is not there", c)
	}
	kinds, shares := map[int]int{}, 0
	for _, l := range c.Levels {
		kinds[l.Kind]++
		if l.Kind != api.Exempt {
			shares += l.Shares
		}
		if l.Kind == api.Queue && handsError(l.Queues, l.Hand) != 0 {
			t.Errorf("%+v: the level %s has no hands to deal", c, l.Name)
		}
	}
	if kinds[api.Exempt] == 0 || shares < 1 {
		t.Errorf("%+v: no level is exempt, or none has shares", c)
	}
	for _, s := range c.Schemas {
		if !slices.ContainsFunc(c.Levels, func(l api.Level) bool { return l.Name == s.Level }) {
			t.Errorf("%+v: the schema %s has no level", c, s.Name)
		}
	}
}

// check holds an answer against the chapter, and answers what it has to be: of nothing, if all is well.
func check(t *testing.T, c api.Config) told {
	t.Helper()
	all := errorsOf(c)
	if len(all) == 0 {
		passes(t, c)
		return told{}
	}
	refuses(t, c, all[0].what, all[0].e)
	return all[0]
}

var star = []string{"*"}

func ruleOfAll() api.Rule {
	return api.Rule{Users: star, Verbs: star, Resources: star, Spaces: star}
}

func queue(name string, queues, hand int) api.Level {
	return api.Level{Name: name, Kind: api.Queue, Shares: 3, Queues: queues, Hand: hand, Length: 1, Wait: 1, Guess: 1}
}

func reject(name string, shares int) api.Level {
	return api.Level{Name: name, Kind: api.Reject, Shares: shares}
}

func exempt(name string) api.Level { return api.Level{Name: name, Kind: api.Exempt} }

// The places of base's levels and schemas.
const (
	first  = iota // a level or schema like others
	fixed         // exempt
	second        // another one like others
	last          // catch-all
)

// base has nothing that may not be; what has to be there stands among others.
func base() api.Config {
	return api.Config{
		Total: 7, Period: 8, PerSeat: 9, Most: 11,
		Levels: []api.Level{queue("a", 4, 2), exempt("exempt"), reject("b", 0), reject("catch-all", 1)},
		Schemas: []api.Schema{
			{Name: "s", Level: "b", Rank: 5, By: api.BySpace, Rules: []api.Rule{{Users: []string{"u"}}}},
			{Name: "exempt", Level: "exempt", Rank: 1},
			{Name: "t", Level: "a", Rank: 5},
			{Name: "catch-all", Level: "catch-all", Rank: 10000, By: api.ByUser, Rules: []api.Rule{ruleOfAll()}},
		},
	}
}

func with(change func(c *api.Config)) api.Config {
	c := base()
	change(&c)
	return c
}

func withLevel(place int, l api.Level) api.Config {
	return with(func(c *api.Config) { c.Levels[place] = l })
}

func withSchema(place int, s api.Schema) api.Config {
	return with(func(c *api.Config) { c.Schemas[place] = s })
}

// P13.1: the chapter's examples.
func TestExamples(t *testing.T) {
	passes(t, fill.Fill(api.Config{}))
	passes(t, base())
	s := api.Schema{Name: "s", Level: "a", Rank: 7}
	refuses(t, fill.Fill(api.Config{Schemas: []api.Schema{s}}), "schema s", api.ErrNone)
	refuses(t, api.Config{}, "total", api.ErrLack)
}

// P13.1: the first error: what is not formed, whatever else is wrong with it.
func TestNotFormed(t *testing.T) {
	far := []int{-1, -2, math.MinInt, math.MaxInt, 1 << 32, 1 << 21}
	for _, n := range far {
		for _, c := range []api.Config{base(), {}} {
			for _, place := range []func(c *api.Config){
				func(c *api.Config) { c.Total = n },
				func(c *api.Config) { c.Period = n },
				func(c *api.Config) { c.PerSeat = n },
				func(c *api.Config) { c.Most = n },
				func(c *api.Config) { c.Levels = append(c.Levels, api.Level{Name: "n", Kind: n}) },
				func(c *api.Config) { c.Levels = append(c.Levels, api.Level{Name: "n", Kind: api.Reject, Shares: n}) },
				func(c *api.Config) { c.Levels = append(c.Levels, queue("n", n, 1)) },
				func(c *api.Config) { c.Levels = append(c.Levels, queue("n", 1, n)) },
				func(c *api.Config) { c.Schemas = append(c.Schemas, api.Schema{Name: "n", Level: "a", Rank: n}) },
				func(c *api.Config) { c.Schemas = append(c.Schemas, api.Schema{Name: "n", Level: "a", Rank: 1, By: n}) },
			} {
				c := copyOf(c)
				place(&c)
				refuses(t, c, "", api.ErrForm)
			}
		}
	}
	for _, c := range notFormed() {
		refuses(t, c, "", api.ErrForm)
		c.Total, c.Period = 0, 0
		refuses(t, c, "", api.ErrForm)
		c.Levels = append(c.Levels, queue("hands", 2, 3))
		refuses(t, c, "", api.ErrForm)
	}
}

// notFormed are configurations in each of which one thing can't be told by a text.
func notFormed() []api.Config {
	var many []api.Level
	for i := range 17 {
		many = append(many, exempt(fmt.Sprint("l", i)))
	}
	var manySchemas []api.Schema
	for i := range 33 {
		manySchemas = append(manySchemas, api.Schema{Name: fmt.Sprint("s", i), Level: "a", Rank: 1})
	}
	return []api.Config{
		with(func(c *api.Config) { c.Most = 0 }),
		with(func(c *api.Config) { c.PerSeat = 0 }),
		withLevel(first, api.Level{}),
		withLevel(first, exempt("")),
		withLevel(first, exempt("exempt")),
		withLevel(first, exempt("no name")),
		withLevel(fixed, api.Level{Name: "exempt", Kind: api.Exempt, Shares: 1}),
		withLevel(last, api.Level{Name: "catch-all", Kind: api.Exempt, Shares: 1}),
		withSchema(first, api.Schema{}),
		withSchema(first, api.Schema{Name: "s", Level: "", Rank: 1}),
		withSchema(first, api.Schema{Name: "t", Level: "a", Rank: 1}),
		withSchema(first, api.Schema{Name: "s", Level: "a", Rank: 1, Rules: []api.Rule{{Users: []string{""}}}}),
		withSchema(first, api.Schema{Name: "s", Level: "a", Rank: 1, Rules: make([]api.Rule, 9)}),
		withSchema(fixed, api.Schema{Name: "exempt", Level: "exempt", Rank: 0}),
		withSchema(last, api.Schema{Name: "catch-all", Level: "catch-all", Rank: 10001, Rules: []api.Rule{ruleOfAll()}}),
		with(func(c *api.Config) { c.Levels = many }),
		with(func(c *api.Config) { c.Schemas = manySchemas }),
	}
}

// P13.1, P13.2: each of the three numbers, and several of them at once, that are not there.
func TestNumbers(t *testing.T) {
	names := []string{"total", "period", "seats"}
	for lacks := 1; lacks < 8; lacks++ {
		c, broken := base(), base()
		broken.Levels, broken.Schemas = []api.Level{queue("a", 2, 3)}, []api.Schema{{Name: "exempt", Level: "x", Rank: 3}}
		want := ""
		for i := len(names) - 1; i >= 0; i-- {
			if lacks>>i&1 == 0 {
				continue
			}
			want = names[i]
			for _, d := range []*api.Config{&c, &broken} {
				switch i {
				case 0:
					d.Total = 0
				case 1:
					d.Period = 0
				case 2:
					d.PerSeat, d.Most = 0, 0
				}
			}
		}
		refuses(t, c, want, api.ErrLack)
		refuses(t, broken, want, api.ErrLack)
	}
	passes(t, with(func(c *api.Config) { c.Total, c.Period, c.PerSeat, c.Most = 1, 1, 1, 1 }))
	passes(t, with(func(c *api.Config) { c.Total, c.Period, c.PerSeat, c.Most = 4096, 1000, 1<<20, 16 }))
}

// P13.1, P13.2: all numbers of lanes and hands, of a Queue level; of the names that have to be there too.
func TestHands(t *testing.T) {
	count := map[api.Errno]int{}
	for queues := -1; queues <= 66; queues++ {
		for hand := -1; hand <= 10; hand++ {
			e := handsError(queues, hand)
			count[e]++
			for place, name := range map[int]string{first: "a", last: "catch-all"} {
				c := withLevel(place, queue(name, queues, hand))
				switch e {
				case api.OK:
					passes(t, c)
				case api.ErrArg: // no text tells it, and that is said first
					refuses(t, c, "", api.ErrForm)
				default:
					refuses(t, c, "level "+name, e)
				}
			}
		}
	}
	for _, e := range []api.Errno{api.OK, api.ErrArg, api.ErrRange, api.ErrHand} {
		if count[e] == 0 {
			t.Errorf("no numbers of the error %d", e)
		}
	}
	passes(t, withLevel(first, queue("a", 1, 1)))
	passes(t, withLevel(first, queue("a", 8, 8)))
	passes(t, withLevel(first, queue("a", 64, 6)))
	refuses(t, withLevel(first, queue("a", 64, 7)), "level a", api.ErrHand)
	refuses(t, withLevel(first, queue("a", 64, 8)), "level a", api.ErrHand)
	refuses(t, withLevel(first, queue("a", 1, 2)), "level a", api.ErrRange)
	refuses(t, withLevel(first, queue("a", 7, 8)), "level a", api.ErrRange)
}

// P13.1: levels of the other kinds have no lanes: with numbers of lanes they are not formed, without them all is well.
func TestHandsOfOtherKinds(t *testing.T) {
	for _, kind := range []int{api.Exempt, api.Reject} {
		passes(t, withLevel(first, api.Level{Name: "a", Kind: kind}))
		for _, numbers := range [][2]int{{2, 3}, {64, 8}, {4, 2}, {0, 1}, {1, 0}, {65, 9}, {-1, -1}} {
			l := queue("a", numbers[0], numbers[1])
			l.Kind = kind
			refuses(t, withLevel(first, l), "", api.ErrForm)
			refuses(t, withLevel(first, api.Level{Name: "a", Kind: kind, Queues: numbers[0], Hand: numbers[1]}), "", api.ErrForm)
		}
	}
}

// P13.1, P13.2: the levels exempt and catch-all of each kind, with and without shares, and others like them.
func TestFixedLevels(t *testing.T) {
	noShares := func(l api.Level) api.Level {
		l.Shares = 0
		return l
	}
	for _, l := range []api.Level{reject("exempt", 0), reject("exempt", 5), queue("exempt", 4, 2), noShares(queue("exempt", 4, 2))} {
		refuses(t, withLevel(fixed, l), "level exempt", api.ErrFixed)
	}
	refuses(t, withLevel(fixed, queue("exempt", 2, 3)), "level exempt", api.ErrRange)
	refuses(t, withLevel(fixed, queue("exempt", 64, 8)), "level exempt", api.ErrHand)
	for _, l := range []api.Level{exempt("catch-all"), reject("catch-all", 0), noShares(queue("catch-all", 4, 2))} {
		refuses(t, withLevel(last, l), "level catch-all", api.ErrFixed)
	}
	refuses(t, withLevel(last, noShares(queue("catch-all", 2, 3))), "level catch-all", api.ErrRange)
	refuses(t, withLevel(last, noShares(queue("catch-all", 64, 8))), "level catch-all", api.ErrHand)
	refuses(t, withLevel(last, queue("catch-all", 64, 8)), "level catch-all", api.ErrHand)
	for _, l := range []api.Level{
		reject("catch-all", 1), reject("catch-all", 10000), queue("catch-all", 4, 2),
		{Name: "catch-all", Kind: api.Reject, Shares: 1, Lend: 100, Borrow: -1},
	} {
		passes(t, withLevel(last, l))
	}
	for _, name := range []string{"a", "exempt2", "exemp", "catch", "all", "catch-al", "catch-all2", "catchall"} {
		for _, l := range []api.Level{exempt(name), reject(name, 0), reject(name, 5), queue(name, 4, 2), noShares(queue(name, 4, 2))} {
			c := withLevel(first, l)
			c.Schemas[second].Level = name
			passes(t, c)
		}
	}
}

// P13.1, P13.2: a schema's level is one of the levels, wherever it stands among them.
func TestLevelsOfSchemas(t *testing.T) {
	for _, name := range []string{"a", "b", "exempt", "catch-all"} {
		passes(t, withSchema(first, api.Schema{Name: "s", Level: name, Rank: 5}))
	}
	for _, name := range []string{"s", "c", "aa", "exemp", "exempt2", "catch", "t"} {
		refuses(t, withSchema(first, api.Schema{Name: "s", Level: name, Rank: 5}), "schema s", api.ErrNone)
		refuses(t, withSchema(second, api.Schema{Name: "t", Level: name, Rank: 5}), "schema t", api.ErrNone)
		refuses(t, withSchema(fixed, api.Schema{Name: "exempt", Level: name, Rank: 5}), "schema exempt", api.ErrNone)
		refuses(t, withSchema(last, api.Schema{Name: "catch-all", Level: name, Rank: 5}), "schema catch-all", api.ErrNone)
	}
	for place, name := range []string{"schema t", "schema exempt", "schema s", "schema catch-all"} {
		c := base()
		c.Levels = slices.Delete(c.Levels, place, place+1)
		refuses(t, c, name, api.ErrNone)
	}
	refuses(t, with(func(c *api.Config) { c.Levels = nil }), "schema s", api.ErrNone)
}

// P13.1: the schema exempt of another level or rank; its other fields do not matter.
func TestSchemaExempt(t *testing.T) {
	for _, level := range []string{"a", "b", "catch-all"} {
		for _, rank := range []int{1, 2, 10000} {
			refuses(t, withSchema(fixed, api.Schema{Name: "exempt", Level: level, Rank: rank}), "schema exempt", api.ErrFixed)
		}
	}
	for _, rank := range []int{2, 3, 9999, 10000} {
		refuses(t, withSchema(fixed, api.Schema{Name: "exempt", Level: "exempt", Rank: rank}), "schema exempt", api.ErrFixed)
	}
	for _, by := range []int{api.ByNone, api.ByUser, api.BySpace} {
		for _, r := range [][]api.Rule{nil, {{}}, {ruleOfAll()}, {{Groups: star}, {Users: []string{"u", "v"}}}} {
			passes(t, withSchema(fixed, api.Schema{Name: "exempt", Level: "exempt", Rank: 1, By: by, Rules: r}))
		}
	}
	passes(t, withSchema(first, api.Schema{Name: "exempt2", Level: "a", Rank: 2}))
}

func catchAll(r ...api.Rule) api.Schema {
	return api.Schema{Name: "catch-all", Level: "catch-all", Rank: 10000, Rules: r}
}

// P13.1: the schema catch-all of another level or rank; its By does not matter.
func TestSchemaCatchAll(t *testing.T) {
	for _, level := range []string{"a", "b", "exempt"} {
		for _, rank := range []int{1, 9999, 10000} {
			s := catchAll(ruleOfAll())
			s.Level, s.Rank = level, rank
			refuses(t, withSchema(last, s), "schema catch-all", api.ErrFixed)
		}
	}
	for _, rank := range []int{1, 2, 9998, 9999} {
		s := catchAll(ruleOfAll())
		s.Rank = rank
		refuses(t, withSchema(last, s), "schema catch-all", api.ErrFixed)
	}
	for _, by := range []int{api.ByNone, api.ByUser, api.BySpace} {
		s := catchAll(ruleOfAll())
		s.By = by
		passes(t, withSchema(last, s))
	}
	passes(t, withSchema(first, api.Schema{Name: "catch-all2", Level: "a", Rank: 2}))
}

// nearlyAll are rules that do not speak of all: of one of the lists in which all has to stand something else does.
func nearlyAll() []api.Rule {
	near := []api.Rule{{}, {Groups: star}, {Groups: star, Verbs: star, Resources: star, Spaces: star}}
	for _, place := range []int{0, 2, 3, 4} {
		for _, l := range [][]string{nil, {}, {"a"}, {"a", "b"}, {"a-b"}, {"x:y"}} {
			for _, groups := range [][]string{nil, {"g"}, star} {
				r := ruleOfAll()
				r.Groups = groups
				*listsOf(&r)[place] = l
				near = append(near, r)
			}
		}
	}
	return near
}

// P13.1: the rules of the schema catch-all: none; none that speaks of all; one of them, at any place.
func TestRulesOfCatchAll(t *testing.T) {
	refuses(t, withSchema(last, catchAll()), "schema catch-all", api.ErrFixed)
	refuses(t, withSchema(last, catchAll([]api.Rule{}...)), "schema catch-all", api.ErrFixed)
	near := nearlyAll()
	for i, r := range near {
		c := withSchema(last, catchAll(r))
		if !print.Formed(c) {
			t.Fatalf("%+v: is not formed", r)
		}
		refuses(t, c, "schema catch-all", api.ErrFixed)
		others := append(slices.Clone(near[i:]), near...)[:8]
		refuses(t, withSchema(last, catchAll(others...)), "schema catch-all", api.ErrFixed)
		for place := range others {
			for _, groups := range [][]string{nil, {"g"}, {"g", "h"}, star} {
				some := slices.Clone(others)
				some[place] = ruleOfAll()
				some[place].Groups = groups
				passes(t, withSchema(last, catchAll(some...)))
				passes(t, withSchema(last, catchAll(some[:place+1]...)))
				refuses(t, withSchema(last, catchAll(some[:place]...)), "schema catch-all", api.ErrFixed)
			}
		}
	}
	passes(t, withSchema(last, catchAll(ruleOfAll(), ruleOfAll())))
	// Rules of others that speak of all do not count.
	c := withSchema(last, catchAll(api.Rule{}))
	c.Schemas[first].Rules = []api.Rule{ruleOfAll()}
	c.Schemas[fixed].Rules = []api.Rule{ruleOfAll()}
	refuses(t, c, "schema catch-all", api.ErrFixed)
	// All in two rules together is not all in one.
	r, s := ruleOfAll(), ruleOfAll()
	r.Users, s.Verbs = nil, nil
	refuses(t, withSchema(last, catchAll(r, s)), "schema catch-all", api.ErrFixed)
}

// P13.1: a list in which all is one of several words is none, so it is not formed.
func TestAllAmongOthers(t *testing.T) {
	for _, l := range [][]string{{"*", "a"}, {"a", "*"}, {"*", "*"}} {
		for place := range 5 {
			r := ruleOfAll()
			*listsOf(&r)[place] = l
			refuses(t, withSchema(last, catchAll(r)), "", api.ErrForm)
			refuses(t, withSchema(last, catchAll(ruleOfAll(), r)), "", api.ErrForm)
		}
	}
}

// P13.1, P13.2: each of the levels and schemas that have to be there, and several of them at once, are not.
func TestLack(t *testing.T) {
	type part struct {
		what string
		drop func(c *api.Config)
	}
	level := func(name string) func(c *api.Config) {
		return func(c *api.Config) {
			c.Levels = slices.DeleteFunc(c.Levels, func(l api.Level) bool { return l.Name == name })
		}
	}
	schema := func(name string) func(c *api.Config) {
		return func(c *api.Config) {
			c.Schemas = slices.DeleteFunc(c.Schemas, func(s api.Schema) bool { return s.Name == name })
		}
	}
	parts := []part{
		{"level exempt", level("exempt")}, {"level catch-all", level("catch-all")},
		{"schema exempt", schema("exempt")}, {"schema catch-all", schema("catch-all")},
	}
	for lacks := 1; lacks < 16; lacks++ {
		c, want, e := base(), "", api.ErrLack
		for i := len(parts) - 1; i >= 0; i-- {
			if lacks>>i&1 == 1 {
				parts[i].drop(&c)
				want = parts[i].what
			}
		}
		// A schema that is there without its level is told first.
		if lacks&5 == 1 {
			want, e = "schema exempt", api.ErrNone
		} else if lacks&10 == 2 {
			want, e = "schema catch-all", api.ErrNone
		}
		refuses(t, c, want, e)
	}
	bare := api.Config{Total: 1, Period: 1, PerSeat: 1, Most: 1}
	refuses(t, bare, "level exempt", api.ErrLack)
	bare.Levels = []api.Level{reject("catch-all", 5)}
	refuses(t, bare, "level exempt", api.ErrLack)
	bare.Levels = []api.Level{exempt("exempt")}
	refuses(t, bare, "level catch-all", api.ErrLack)
	bare.Levels = []api.Level{reject("catch-all", 5), exempt("exempt")}
	refuses(t, bare, "schema exempt", api.ErrLack)
	bare.Schemas = []api.Schema{catchAll(ruleOfAll())}
	refuses(t, bare, "schema exempt", api.ErrLack)
	bare.Schemas = []api.Schema{{Name: "exempt", Level: "exempt", Rank: 1}}
	refuses(t, bare, "schema catch-all", api.ErrLack)
	bare.Schemas = []api.Schema{{Name: "exempt", Level: "exempt", Rank: 1}, catchAll(ruleOfAll())}
	passes(t, bare)
	// A level or schema of such a kind, but of another name, is not it.
	bare.Levels = []api.Level{reject("catch-all", 5), exempt("exempt2")}
	bare.Schemas = bare.Schemas[1:]
	refuses(t, bare, "level exempt", api.ErrLack)
}

// wrong is something wrong, and what is told of it.
type wrong struct {
	name   string
	told   told
	change func(c *api.Config)
}

// wrongs, in the order in which the chapter tells them; none of them undoes another one.
func wrongs() []wrong {
	return []wrong{
		{"form", told{"", 2}, func(c *api.Config) { c.Schemas[first].By = 3 }},
		{"total", told{"total", 12}, func(c *api.Config) { c.Total = 0 }},
		{"period", told{"period", 12}, func(c *api.Config) { c.Period = 0 }},
		{"seats", told{"seats", 12}, func(c *api.Config) { c.PerSeat, c.Most = 0, 0 }},
		{"first level", told{"level a", 8}, func(c *api.Config) { c.Levels[first] = queue("a", 2, 3) }},
		{"level exempt", told{"level exempt", 11}, func(c *api.Config) { c.Levels[fixed] = reject("exempt", 5) }},
		{"second level", told{"level b", 10}, func(c *api.Config) { c.Levels[second] = queue("b", 64, 8) }},
		{"level catch-all", told{"level catch-all", 11}, func(c *api.Config) { c.Levels[last].Shares = 0 }},
		{"first schema", told{"schema s", 6}, func(c *api.Config) { c.Schemas[first].Level = "none" }},
		{"schema exempt", told{"schema exempt", 11}, func(c *api.Config) { c.Schemas[fixed].Rank = 2 }},
		{"second schema", told{"schema t", 6}, func(c *api.Config) { c.Schemas[second].Level = "no-more" }},
		{"schema catch-all", told{"schema catch-all", 11}, func(c *api.Config) { c.Schemas[last].Rules = nil }},
	}
}

// lacks are the parts that may not be there, in order; what is told of a schema that is not there is not wrong any more.
func lacks() []wrong {
	level := func(name string) func(l api.Level) bool { return func(l api.Level) bool { return l.Name == name } }
	schema := func(name string) func(s api.Schema) bool { return func(s api.Schema) bool { return s.Name == name } }
	both := func(name string) func(c *api.Config) {
		return func(c *api.Config) {
			c.Levels = slices.DeleteFunc(c.Levels, level(name))
			c.Schemas = slices.DeleteFunc(c.Schemas, schema(name))
		}
	}
	return []wrong{
		{"exempt", told{"level exempt", 12}, both("exempt")},
		{"catch-all", told{"level catch-all", 12}, both("catch-all")},
		{"exempt", told{"schema exempt", 12}, func(c *api.Config) { c.Schemas = slices.DeleteFunc(c.Schemas, schema("exempt")) }},
		{"catch-all", told{"schema catch-all", 12}, func(c *api.Config) { c.Schemas = slices.DeleteFunc(c.Schemas, schema("catch-all")) }},
	}
}

// P13.1: each error alone, and two and three of them at once: the one that the list names first is told.
func TestFirst(t *testing.T) {
	all := wrongs()
	for i, one := range all {
		refuses(t, with(one.change), one.told.what, one.told.e)
		for j, two := range all {
			if i < j {
				refuses(t, with(func(c *api.Config) { two.change(c); one.change(c) }), one.told.what, one.told.e)
			}
			for _, three := range all[j:] {
				if i < j {
					refuses(t, with(func(c *api.Config) { one.change(c); two.change(c); three.change(c) }), one.told.what, one.told.e)
				}
			}
		}
		for _, lack := range lacks() {
			c := with(func(c *api.Config) { one.change(c); lack.change(c) })
			if strings.HasSuffix(one.name, " "+lack.name) {
				check(t, c)
				continue
			}
			refuses(t, c, one.told.what, one.told.e)
		}
	}
	for i, one := range lacks() {
		refuses(t, with(one.change), one.told.what, one.told.e)
		for _, two := range lacks()[i:] {
			refuses(t, with(func(c *api.Config) { one.change(c); two.change(c) }), one.told.what, one.told.e)
		}
	}
}

// P13.1: of two levels, and of two schemas, the one that stands first is told, whatever their names and errors are.
func TestOrder(t *testing.T) {
	levels := []struct {
		l api.Level
		e api.Errno
	}{
		{queue("z", 2, 3), 8}, {queue("y", 64, 8), 10}, {reject("exempt", 5), 11}, {reject("catch-all", 0), 11},
		{queue("b", 1, 2), 8}, {queue("a", 64, 7), 10},
	}
	for _, one := range levels {
		for _, two := range levels {
			if one.l.Name != two.l.Name {
				c := with(func(c *api.Config) { c.Levels = []api.Level{exempt("m"), one.l, exempt("n"), two.l} })
				refuses(t, c, "level "+one.l.Name, one.e)
			}
		}
	}
	rank := func(s api.Schema) api.Schema {
		s.Rank = 77
		return s
	}
	schemas := []struct {
		s api.Schema
		e api.Errno
	}{
		{api.Schema{Name: "z", Level: "none", Rank: 1}, 6}, {api.Schema{Name: "a", Level: "none", Rank: 10000}, 6},
		{api.Schema{Name: "exempt", Level: "a", Rank: 1}, 11}, {rank(catchAll(ruleOfAll())), 11},
		{api.Schema{Name: "m", Level: "m", Rank: 50}, 6},
	}
	for _, one := range schemas {
		for _, two := range schemas {
			if one.s.Name != two.s.Name {
				c := with(func(c *api.Config) {
					c.Schemas = []api.Schema{base().Schemas[first], one.s, base().Schemas[second], two.s}
				})
				refuses(t, c, "schema "+one.s.Name, one.e)
			}
		}
	}
}

// P13.1, P13.2: as many levels, schemas and rules as may be told, the wrong one at any place.
func TestMany(t *testing.T) {
	c := base()
	for i := len(c.Levels); i < 16; i++ {
		c.Levels = append(c.Levels, queue(fmt.Sprint("l", i), 8, 8))
	}
	for i := len(c.Schemas); i < 32; i++ {
		c.Schemas = append(c.Schemas, api.Schema{Name: fmt.Sprint("s", i), Level: c.Levels[i%16].Name, Rank: i, Rules: make([]api.Rule, 8)})
	}
	passes(t, c)
	for i := len(base().Levels); i < 16; i++ {
		d := copyOf(c)
		d.Levels[i].Queues = 7
		refuses(t, d, "level "+d.Levels[i].Name, api.ErrRange)
	}
	for i := len(base().Schemas); i < 32; i++ {
		d := copyOf(c)
		d.Schemas[i].Level = "none"
		refuses(t, d, "schema "+d.Schemas[i].Name, api.ErrNone)
	}
	// A name as long as one may be, and one that is longer.
	long := strings.Repeat("n", 32)
	refuses(t, withLevel(second, queue(long, 2, 3)), "level "+long, api.ErrRange)
	refuses(t, withLevel(second, queue(long+"n", 2, 3)), "", api.ErrForm)
	// What is too long for a text may be formed all the same.
	word := strings.Repeat("w", 64)
	list := make([]string, 8)
	for i := range list {
		list[i] = fmt.Sprint(i, word[1:])
	}
	for i := range c.Schemas {
		if i != fixed && i != last {
			c.Schemas[i].Rules = []api.Rule{{Users: list, Groups: list, Verbs: list, Resources: list, Spaces: list}}
		}
	}
	if _, e := print.Print(c); e != api.ErrLong {
		t.Fatalf("printed with %d", e)
	}
	passes(t, c)
	c.Schemas[31].Level = "none"
	refuses(t, c, "schema s31", api.ErrNone)
}

// P13.1: configurations out of texts, filled and not.
func TestOfTexts(t *testing.T) {
	for _, c := range []struct {
		text string
		told
	}{
		{"", told{}},
		{"total 10\nlevel a 5 0 all reject\nschema s a 7 user\nrule * - get,list * -", told{}},
		{"level a 5 0 0 queue 64 8 1 1 1", told{"level a", api.ErrHand}},
		{"level a 5 0 0 queue 3 4 1 1 1\nlevel exempt 1 0 0 reject", told{"level a", api.ErrRange}},
		{"level exempt 1 0 0 reject\nlevel a 5 0 0 queue 3 4 1 1 1", told{"level exempt", api.ErrFixed}},
		{"level catch-all exempt", told{"level catch-all", api.ErrFixed}},
		{"level catch-all 0 0 0 reject", told{"level catch-all", api.ErrFixed}},
		{"level catch-all 0 0 0 queue 1 1 1 1 1", told{"level catch-all", api.ErrFixed}},
		{"level catch-all 1 0 0 queue 1 1 1 1 1", told{}},
		{"schema s a 7 user", told{"schema s", api.ErrNone}},
		{"schema exempt catch-all 1 none", told{"schema exempt", api.ErrFixed}},
		{"schema exempt exempt 2 none", told{"schema exempt", api.ErrFixed}},
		{"schema catch-all catch-all 10000 user", told{"schema catch-all", api.ErrFixed}},
		{"schema catch-all catch-all 10000 user\nrule a - * * *", told{"schema catch-all", api.ErrFixed}},
		{"schema catch-all catch-all 10000 user\nrule a - * * *\nrule * g * * *", told{}},
		{"schema catch-all catch-all 9999 user\nrule * - * * *", told{"schema catch-all", api.ErrFixed}},
		{"schema catch-all exempt 10000 user\nrule * - * * *", told{"schema catch-all", api.ErrFixed}},
	} {
		read, err := conf.Parse(c.text)
		if err != nil {
			t.Fatal(err)
		}
		if got := check(t, fill.Fill(read)); got != c.told {
			t.Errorf("%q: %v; want %v", c.text, got, c.told)
		}
		check(t, read)
	}
}

func mixedLevel(r *random, name string) api.Level {
	if name == "exempt" && !r.one(12) {
		return exempt(name)
	}
	switch r.below(3) {
	case 0:
		if name == "catch-all" && !r.one(12) {
			return reject(name, 1+r.below(3))
		}
		return exempt(name)
	case 1:
		return reject(name, pick(r, 1, 2, 5, 10000, r.below(8)))
	}
	if r.one(10) {
		return queue(name, pick(r, 1, 2, 3, 64), pick(r, 1, 2, 3, 8))
	}
	return queue(name, pick(r, 8, 20, 9), 1+r.below(8))
}

func mixedList(r *random) []string {
	return pick(r, nil, []string{}, star, []string{"a"}, []string{"a", "b"}, star, star)
}

func mixedSchema(r *random, name string, levels []string) api.Schema {
	s := api.Schema{Name: name, Level: pick(r, levels...), Rank: pick(r, 1, 2, 9999, 10000), By: r.below(3)}
	if r.one(25) {
		s.Level = "none"
	}
	for range r.below(4) {
		s.Rules = append(s.Rules, api.Rule{
			Users: mixedList(r), Groups: mixedList(r), Verbs: mixedList(r), Resources: mixedList(r), Spaces: mixedList(r),
		})
	}
	if name == "exempt" && !r.one(12) {
		s.Level, s.Rank = "exempt", 1
	}
	if name == "catch-all" && !r.one(12) {
		s.Level, s.Rank = "catch-all", 10000
	}
	if name == "catch-all" && !r.one(8) {
		s.Rules = slices.Insert(s.Rules, r.below(len(s.Rules)+1), ruleOfAll())
	}
	return s
}

func shuffled[T any](r *random, l []T) []T {
	for i := range l {
		j := r.below(i + 1)
		l[i], l[j] = l[j], l[i]
	}
	return l
}

func mixedNames(r *random, others ...string) []string {
	var names []string
	for _, name := range []string{"exempt", "catch-all"} {
		if !r.one(20) {
			names = append(names, name)
		}
	}
	for _, name := range others {
		if r.one(2) {
			names = append(names, name)
		}
	}
	return shuffled(r, names)
}

// mixed has, mostly, few things wrong with it, so that the last of the list are met as well.
func mixed(r *random) api.Config {
	c := api.Config{Total: 1 + r.below(50), Period: 1 + r.below(50), PerSeat: 1 + r.below(50), Most: 1 + r.below(16)}
	switch r.below(50) {
	case 0:
		c.Total = pick(r, 0, -1, 4097)
	case 1:
		c.Period = pick(r, 0, 0, 1001)
	case 2:
		c.PerSeat, c.Most = 0, pick(r, 0, 0, 0, 1)
	}
	names := mixedNames(r, "a", "b", "c", "exempt2", "d")
	for _, name := range names {
		c.Levels = append(c.Levels, mixedLevel(r, name))
	}
	for _, name := range mixedNames(r, "s", "t", "a", "u", "catch", "v") {
		c.Schemas = append(c.Schemas, mixedSchema(r, name, append(slices.Clone(names), "b")))
	}
	if r.one(50) && len(c.Levels) > 0 {
		c.Levels[r.below(len(c.Levels))].Guess = 7
	}
	return c
}

// P13.1, P13.2: mixed configurations, among which each answer is met often.
func TestMixed(t *testing.T) {
	r := seed
	met := map[told]int{}
	for range 40000 {
		c := mixed(&r)
		met[check(t, c)]++
		check(t, fill.Fill(c))
	}
	for _, answer := range []told{
		{}, {"", 2}, {"total", 12}, {"period", 12}, {"seats", 12}, {"level a", 8}, {"level d", 10}, {"level exempt", 11}, {"level catch-all", 11},
		{"level catch-all", 8}, {"schema s", 6}, {"schema exempt", 6}, {"schema exempt", 11}, {"schema catch-all", 6}, {"schema catch-all", 11},
		{"level exempt", 12}, {"level catch-all", 12}, {"schema exempt", 12}, {"schema catch-all", 12},
	} {
		if met[answer] < 20 {
			t.Errorf("%v is met %d times", answer, met[answer])
		}
	}
}

// Rule 1: whatever is given, there is an answer.
func TestAnything(t *testing.T) {
	r := seed
	number := func() int { return pick(&r, 0, 0, 1, 2, 3, -1, 64, 65, 10000, math.MaxInt, math.MinInt) }
	name := func() string { return pick(&r, "exempt", "catch-all", "a", "", "*", "\xff\x00", "a b") }
	for range 20000 {
		c := api.Config{Total: number(), Period: number(), PerSeat: number(), Most: number()}
		for range r.below(20) {
			c.Levels = append(c.Levels, api.Level{Name: name(), Kind: number(), Shares: number(), Queues: number(), Hand: number(), Guess: number()})
		}
		for range r.below(4) {
			s := api.Schema{Name: name(), Level: name(), Rank: number(), By: number(), Rules: make([]api.Rule, r.below(10))}
			for i := range s.Rules {
				s.Rules[i].Users = []string{name()}
			}
			c.Schemas = append(c.Schemas, s)
		}
		check(t, c)
	}
}

// withRoom gives each list spare room, in which something stands that would be missed or found.
func withRoom(c api.Config) api.Config {
	c = copyOf(c)
	for i := range c.Schemas {
		for j := range c.Schemas[i].Rules {
			for _, l := range listsOf(&c.Schemas[i].Rules[j]) {
				*l = roomBehind(*l, "*")
			}
		}
		c.Schemas[i].Rules = roomBehind(c.Schemas[i].Rules, ruleOfAll())
	}
	c.Levels = roomBehind(c.Levels, exempt("exempt"))
	c.Schemas = roomBehind(c.Schemas, catchAll(ruleOfAll()))
	return c
}

func roomBehind[T any](l []T, spare T) []T {
	more := append(slices.Clone(l), spare, spare, spare)
	return more[:len(l)]
}

// whole is a configuration with all lists as long as they have room.
func whole(c api.Config) api.Config {
	c.Levels = c.Levels[:cap(c.Levels)]
	c.Schemas = slices.Clone(c.Schemas[:cap(c.Schemas)])
	for i := range c.Schemas {
		c.Schemas[i].Rules = slices.Clone(c.Schemas[i].Rules[:cap(c.Schemas[i].Rules)])
		for j := range c.Schemas[i].Rules {
			for _, l := range listsOf(&c.Schemas[i].Rules[j]) {
				*l = (*l)[:cap(*l)]
			}
		}
	}
	return c
}

// Rule 3: what is handed in is not changed, its spare room neither, and what stands there is not found; nil and an
// empty list are the same.
func TestNotChanged(t *testing.T) {
	r := seed
	for range 3000 {
		bare := mixed(&r)
		c := withRoom(bare)
		given := copyOf(whole(c))
		check(t, c)
		if !same(whole(c), given) {
			t.Fatalf("changed: %+v", c)
		}
		if a, b := rules.Check(c), rules.Check(copyOf(bare)); a != b {
			t.Fatalf("%+v: %v, or %v by its spare room", c, a, b)
		}
	}
	empty := api.Config{Total: 1, Period: 1, PerSeat: 1, Most: 1, Levels: []api.Level{}, Schemas: []api.Schema{}}
	refuses(t, empty, "level exempt", api.ErrLack)
}

// Rule 3: an error stays as it was when the configuration that it is of is written over.
func TestNotKept(t *testing.T) {
	c := withLevel(first, queue("a", 2, 3))
	err := rules.Check(c)
	c.Levels[first] = queue("written-over", 64, 8)
	if err != error(fault.Fault{What: "level a", Err: api.ErrRange}) {
		t.Errorf("%v", err)
	}
	refuses(t, c, "level written-over", api.ErrHand)
}

// Rule 4: an answer hangs on the configuration alone, not on those that were checked ahead of it.
func TestCallsApart(t *testing.T) {
	r := seed
	for range 500 {
		rules.Check(mixed(&r))
		passes(t, base())
		rules.Check(mixed(&r))
		refuses(t, withLevel(first, queue("a", 2, 3)), "level a", api.ErrRange)
	}
}
