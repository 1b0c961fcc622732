package fill_test

import (
	"fmt"
	"math"
	"reflect"
	"slices"
	"testing"

	"usher/api"
	"usher/conf"
	"usher/fill"
)

// random are numbers, the same ones each time.
type random uint64

func (r *random) next() uint64 {
	x := uint64(*r)
	x ^= x << 13
	x ^= x >> 7
	x ^= x << 17
	*r = random(x)
	return x
}

func (r *random) below(n int) int { return int((r.next() >> 11) % uint64(n)) }

func pick[T any](r *random, of ...T) T { return of[r.below(len(of))] }

const seed = random(88172645463325252)

// copyOf a configuration shares nothing with it, and has nil in place of each empty list.
func copyOf(c api.Config) api.Config {
	c.Levels = append([]api.Level(nil), c.Levels...)
	c.Schemas = append([]api.Schema(nil), c.Schemas...)
	for i := range c.Schemas {
		c.Schemas[i].Rules = append([]api.Rule(nil), c.Schemas[i].Rules...)
		for j := range c.Schemas[i].Rules {
			for _, l := range listsOf(&c.Schemas[i].Rules[j]) {
				*l = append([]string(nil), *l...)
			}
		}
	}
	return c
}

func listsOf(r *api.Rule) []*[]string {
	return []*[]string{&r.Users, &r.Groups, &r.Verbs, &r.Resources, &r.Spaces}
}

// same: nil and empty lists are.
func same(a, b api.Config) bool { return reflect.DeepEqual(copyOf(a), copyOf(b)) }

// What follows is the chapter once more: what stands behind, word by word, and where it does.

func exemptLevel() api.Level { return api.Level{Name: "exempt", Kind: 1} }

func catchAllLevel() api.Level {
	return api.Level{Name: "catch-all", Kind: 2, Shares: 5, Lend: 0, Borrow: -1}
}

func exemptSchema() api.Schema {
	return api.Schema{Name: "exempt", Level: "exempt", Rank: 1, By: 0, Rules: []api.Rule{
		{Groups: []string{"system:masters"}, Verbs: []string{"*"}, Resources: []string{"*"}, Spaces: []string{"*"}},
	}}
}

func catchAllSchema() api.Schema {
	return api.Schema{Name: "catch-all", Level: "catch-all", Rank: 10000, By: 1, Rules: []api.Rule{
		{Users: []string{"*"}, Verbs: []string{"*"}, Resources: []string{"*"}, Spaces: []string{"*"}},
	}}
}

func filled(c api.Config) api.Config {
	c = copyOf(c)
	for n, usual := range map[*int]int{&c.Total: 100, &c.Period: 10, &c.PerSeat: 100, &c.Most: 10} {
		if *n == 0 {
			*n = usual
		}
	}
	levels, schemas := map[string]int{}, map[string]int{}
	for _, l := range c.Levels {
		levels[l.Name]++
	}
	for _, s := range c.Schemas {
		schemas[s.Name]++
	}
	if levels["exempt"] == 0 {
		c.Levels = append(c.Levels, exemptLevel())
	}
	if levels["catch-all"] == 0 {
		c.Levels = append(c.Levels, catchAllLevel())
	}
	if schemas["exempt"] == 0 {
		c.Schemas = append(c.Schemas, exemptSchema())
	}
	if schemas["catch-all"] == 0 {
		c.Schemas = append(c.Schemas, catchAllSchema())
	}
	return c
}

// fills holds an answer against what is wanted, and asks what P12.3 says of each: what was told stands at its place in
// it, and Fill of it is the same.
func fills(t *testing.T, c, want api.Config) {
	t.Helper()
	got := fill.Fill(c)
	if !same(got, want) {
		t.Errorf("of %+v: %+v, not %+v", c, got, want)
		return
	}
	told := got
	told.Total, told.Period, told.PerSeat, told.Most = c.Total, c.Period, c.PerSeat, c.Most
	told.Levels, told.Schemas = got.Levels[:len(c.Levels)], got.Schemas[:len(c.Schemas)]
	if !same(told, c) {
		t.Errorf("of %+v: what was told is %+v", c, told)
	}
	if again := fill.Fill(got); !same(again, got) {
		t.Errorf("of %+v: again: %+v, not %+v", c, again, got)
	}
}

func check(t *testing.T, c api.Config) {
	t.Helper()
	fills(t, c, filled(c))
}

// P12.1, P12.2: the chapter's example, and all of it word by word.
func TestNothing(t *testing.T) {
	want := api.Config{
		Total: 100, Period: 10, PerSeat: 100, Most: 10,
		Levels:  []api.Level{exemptLevel(), catchAllLevel()},
		Schemas: []api.Schema{exemptSchema(), catchAllSchema()},
	}
	fills(t, api.Config{}, want)
	fills(t, api.Config{Levels: []api.Level{}, Schemas: []api.Schema{}}, want)
	fills(t, want, want)
	read, err := conf.Parse("total 100\nperiod 10\nseats 100 10\nlevel exempt exempt\nlevel catch-all 5 0 all reject\n" +
		"schema exempt exempt 1 none\nrule - system:masters * * *\nschema catch-all catch-all 10000 user\nrule * - * * *\n")
	if err != nil || !same(read, want) {
		t.Errorf("a text tells %+v, error %v", read, err)
	}
}

// base is filled, and unlike what Fill puts in.
func base() api.Config {
	return api.Config{
		Total: 7, Period: 8, PerSeat: 9, Most: 11,
		Levels:  []api.Level{{Name: "catch-all", Kind: api.Exempt}, {Name: "exempt", Kind: api.Reject, Shares: 3}},
		Schemas: []api.Schema{{Name: "catch-all", Level: "x", Rank: 2}, {Name: "exempt", Level: "y", Rank: 3}},
	}
}

func numbersOf(c *api.Config) []*int { return []*int{&c.Total, &c.Period, &c.PerSeat, &c.Most} }

// P12.1: each of the four numbers, 0 alone, and alone not 0; whatever is not 0 stays, also what no text may tell.
func TestNumbers(t *testing.T) {
	usual := []int{100, 10, 100, 10}
	fills(t, base(), base())
	for place := range usual {
		c, want := base(), base()
		*numbersOf(&c)[place] = 0
		*numbersOf(&want)[place] = usual[place]
		fills(t, c, want)
		for _, n := range []int{1, 2, 9, 10, 11, 99, 100, 101, 4096, 4097, 1 << 20, 1 << 62, math.MaxInt, -1, -10, -100, math.MinInt} {
			c, want := base(), base()
			*numbersOf(&c)[place] = n
			*numbersOf(&want)[place] = n
			fills(t, c, want)
			var alone api.Config
			*numbersOf(&alone)[place] = n
			want = fill.Fill(api.Config{})
			*numbersOf(&want)[place] = n
			fills(t, alone, want)
		}
	}
	for zeros := range 16 {
		c, want := base(), base()
		for place := range usual {
			if zeros>>place&1 == 1 {
				*numbersOf(&c)[place] = 0
				*numbersOf(&want)[place] = usual[place]
			}
		}
		fills(t, c, want)
	}
}

// levelsOf some names are of one kind, also of such as there is none.
func levelsOf(kind int, names ...string) []api.Level {
	var l []api.Level
	for i, name := range names {
		l = append(l, api.Level{Name: name, Kind: kind, Shares: i + 1, Lend: i + 2, Borrow: i - 3, Queues: i, Hand: -i, Length: 9, Wait: 8, Guess: 7})
	}
	return l
}

func schemasOf(rank int, names ...string) []api.Schema {
	var l []api.Schema
	for i, name := range names {
		l = append(l, api.Schema{Name: name, Level: fmt.Sprint("l", i), Rank: rank, By: i - 1, Rules: []api.Rule{
			{Users: []string{name, "u"}, Spaces: []string{"*"}}, {Groups: []string{"system:masters"}},
		}})
	}
	return l
}

// namesOf levels or schemas: both, one or none of the two that have to be there are among them, in either order, or twice.
func namesOf() [][]string {
	return [][]string{
		{}, {"a"}, {"exempt"}, {"catch-all"}, {"exempt", "catch-all"}, {"catch-all", "exempt"}, {"a", "exempt"}, {"exempt", "a"},
		{"a", "catch-all"}, {"catch-all", "a"}, {"a", "exempt", "b"}, {"a", "catch-all", "b"}, {"exempt", "a", "catch-all"},
		{"catch-all", "a", "exempt"}, {"a", "catch-all", "b", "exempt", "c"}, {"exempt", "exempt"}, {"catch-all", "catch-all"},
		{"exempt", "exempt", "catch-all"}, {"catch-all", "exempt", "catch-all"}, {"exempt", "a", "exempt", "b"}, {"a", "a"}, {"", ""},
		{"exempt", "catch-all", "exempt", "catch-all"}, {"b", "a", "c"},
	}
}

func behind(names []string, name string) bool { return !slices.Contains(names, name) }

// P12.1: which levels stand behind, whatever the kinds of those that are there; the schemas do not matter.
func TestLevels(t *testing.T) {
	for _, names := range namesOf() {
		for _, kind := range []int{api.Exempt, api.Reject, api.Queue, 0, 4, -1, math.MaxInt} {
			for _, others := range namesOf() {
				c := base()
				c.Levels = levelsOf(kind, names...)
				c.Schemas = schemasOf(kind, others...)
				want := levelsOf(kind, names...)
				if behind(names, "exempt") {
					want = append(want, exemptLevel())
				}
				if behind(names, "catch-all") {
					want = append(want, catchAllLevel())
				}
				if got := fill.Fill(c); !slices.Equal(got.Levels, want) {
					t.Errorf("%q of the kind %d: %+v", names, kind, got.Levels)
				}
				check(t, c)
			}
		}
	}
}

// P12.2: which schemas stand behind, whatever those are that are there; the levels do not matter.
func TestSchemas(t *testing.T) {
	for _, names := range namesOf() {
		for _, rank := range []int{1, 2, 9999, 10000, 0, -1, 10001, math.MinInt} {
			for _, others := range namesOf() {
				c := base()
				c.Levels = levelsOf(rank, others...)
				c.Schemas = schemasOf(rank, names...)
				want := api.Config{Schemas: schemasOf(rank, names...)}
				if behind(names, "exempt") {
					want.Schemas = append(want.Schemas, exemptSchema())
				}
				if behind(names, "catch-all") {
					want.Schemas = append(want.Schemas, catchAllSchema())
				}
				if got := (api.Config{Schemas: fill.Fill(c).Schemas}); !same(got, want) {
					t.Errorf("%q of the rank %d: %+v", names, rank, got.Schemas)
				}
				check(t, c)
			}
		}
	}
}

// P12.1, P12.2: a name that is nearly one of those, or a schema's level, or a word of a rule, is not there.
func TestNamesThatAreNotThose(t *testing.T) {
	for _, name := range []string{
		"", "Exempt", "EXEMPT", "exempt ", " exempt", "exemp", "exempts", "exempt\x00", "exempt\n", "exempted", "xexempt", "catch", "all", "catchall",
		"catch-al", "catch-all-", "catch_all", "Catch-All", "catch-all\xff", "catch–all", "catch-all,exempt", "exempt catch-all", "*",
	} {
		c := base()
		c.Levels, c.Schemas = levelsOf(2, name), schemasOf(2, name)
		want := base()
		want.Levels = append(levelsOf(2, name), exemptLevel(), catchAllLevel())
		want.Schemas = append(schemasOf(2, name), exemptSchema(), catchAllSchema())
		fills(t, c, want)
	}
	named := api.Schema{Name: "s", Level: "exempt", Rules: []api.Rule{{Users: []string{"exempt", "catch-all"}}}}
	other := api.Schema{Name: "t", Level: "catch-all"}
	c, want := base(), base()
	c.Levels, c.Schemas = levelsOf(3, "s", "t"), []api.Schema{named, other}
	want.Levels = append(levelsOf(3, "s", "t"), exemptLevel(), catchAllLevel())
	want.Schemas = []api.Schema{named, other, exemptSchema(), catchAllSchema()}
	fills(t, c, want)
}

// P12.3: what is there of those names stays as it is, also where it is nothing but a name.
func TestToldStays(t *testing.T) {
	c := base()
	c.Levels = []api.Level{{Name: "exempt"}, {Name: "catch-all"}}
	c.Schemas = []api.Schema{{Name: "exempt"}, {Name: "catch-all"}}
	fills(t, c, c)
	c.Schemas[0].Rules = make([]api.Rule, 3)
	c.Schemas[1].Rules = []api.Rule{{}, {Users: []string{"", "*", "*"}}, {}}
	fills(t, c, c)
	c.Levels = levelsOf(9, "catch-all", "exempt", "catch-all", "exempt")
	c.Schemas = schemasOf(-9, "catch-all", "exempt", "catch-all", "exempt")
	fills(t, c, c)
}

func numbered(count int) []string {
	var names []string
	for i := range count {
		names = append(names, fmt.Sprint("n", i))
	}
	return names
}

// P12.1, P12.2, P12.3: as many levels and schemas as a text may tell, and more, with those names at any place.
func TestMany(t *testing.T) {
	for _, count := range []int{14, 15, 16, 17, 30, 31, 32, 33, 100, 5000} {
		names := numbered(count)
		check(t, api.Config{Levels: levelsOf(2, names...), Schemas: schemasOf(5, names...)})
		for _, place := range []int{0, 1, count / 2, count - 2, count - 1} {
			for _, name := range []string{"exempt", "catch-all"} {
				more := slices.Clone(names)
				more[place] = name
				check(t, api.Config{Levels: levelsOf(2, more...), Schemas: schemasOf(5, more...)})
				check(t, api.Config{Levels: levelsOf(2, more...), Schemas: schemasOf(5, names...)})
				check(t, api.Config{Levels: levelsOf(2, names...), Schemas: schemasOf(5, more...)})
			}
		}
	}
	got := fill.Fill(api.Config{Levels: levelsOf(2, numbered(16)...), Schemas: schemasOf(5, numbered(32)...)})
	if len(got.Levels) != 18 || len(got.Schemas) != 34 {
		t.Errorf("%d levels, %d schemas", len(got.Levels), len(got.Schemas))
	}
	check(t, api.Config{Schemas: []api.Schema{{Name: "s", Rules: make([]api.Rule, 5000)}}})
	check(t, api.Config{Schemas: []api.Schema{{Name: "s", Rules: []api.Rule{{Verbs: numbered(5000)}}}}})
}

func mixedNumber(r *random) int {
	return pick(r, 0, 0, 1, 2, 10, 100, -1, r.below(5000), -r.below(5000), math.MaxInt, math.MinInt)
}

func mixedName(r *random) string {
	return pick(r, "exempt", "catch-all", "a", "b", "c", "", "*", "exempt ", fmt.Sprint("n", r.below(50)), "\xff\x00")
}

func mixedList(r *random) []string {
	l := []string{}
	for range r.below(3) * r.below(4) {
		l = append(l, pick(r, "*", "a", "b", "", "system:masters", "-", "\n"))
	}
	return l
}

func mixed(r *random) api.Config {
	c := api.Config{Total: mixedNumber(r), Period: mixedNumber(r), PerSeat: mixedNumber(r), Most: mixedNumber(r)}
	for range r.below(6) {
		c.Levels = append(c.Levels, api.Level{
			Name: mixedName(r), Kind: mixedNumber(r), Shares: mixedNumber(r), Lend: mixedNumber(r), Borrow: mixedNumber(r),
			Queues: mixedNumber(r), Hand: mixedNumber(r), Length: mixedNumber(r), Wait: mixedNumber(r), Guess: mixedNumber(r),
		})
	}
	for range r.below(6) {
		s := api.Schema{Name: mixedName(r), Level: mixedName(r), Rank: mixedNumber(r), By: mixedNumber(r)}
		for range r.below(4) {
			s.Rules = append(s.Rules, api.Rule{
				Users: mixedList(r), Groups: mixedList(r), Verbs: mixedList(r), Resources: mixedList(r), Spaces: mixedList(r),
			})
		}
		c.Schemas = append(c.Schemas, s)
	}
	return c
}

// P12.1, P12.2, P12.3: mixed configurations, whether a text may tell them or not.
func TestMixed(t *testing.T) {
	r := seed
	for range 20000 {
		check(t, mixed(&r))
	}
}

// P12.1, P12.2: what a text tells.
func TestOfTexts(t *testing.T) {
	c, err := conf.Parse("total 10\nlevel a 5 0 all reject\nschema s a 7 user\nrule * - get,list * -")
	if err != nil {
		t.Fatal(err)
	}
	fills(t, c, api.Config{
		Total: 10, Period: 10, PerSeat: 100, Most: 10,
		Levels: []api.Level{{Name: "a", Kind: api.Reject, Shares: 5, Borrow: -1}, exemptLevel(), catchAllLevel()},
		Schemas: []api.Schema{
			{Name: "s", Level: "a", Rank: 7, By: api.ByUser, Rules: []api.Rule{{Users: []string{"*"}, Verbs: []string{"get", "list"}, Resources: []string{"*"}}}},
			exemptSchema(), catchAllSchema(),
		},
	})
	c, err = conf.Parse("level catch-all exempt\nseats 3 4\nperiod 5\nschema exempt a 9 space")
	if err != nil {
		t.Fatal(err)
	}
	fills(t, c, api.Config{
		Total: 100, Period: 5, PerSeat: 3, Most: 4,
		Levels:  []api.Level{{Name: "catch-all", Kind: api.Exempt}, exemptLevel()},
		Schemas: []api.Schema{{Name: "exempt", Level: "a", Rank: 9, By: api.BySpace}, catchAllSchema()},
	})
}

// withRoom gives each list spare room, in which something stands.
func withRoom(c api.Config) api.Config {
	c = copyOf(c)
	for i := range c.Schemas {
		for j := range c.Schemas[i].Rules {
			for _, l := range listsOf(&c.Schemas[i].Rules[j]) {
				*l = roomBehind(*l, "spare")
			}
		}
		c.Schemas[i].Rules = roomBehind(c.Schemas[i].Rules, api.Rule{Users: []string{"spare"}})
	}
	c.Levels = roomBehind(c.Levels, api.Level{Name: "spare"})
	c.Schemas = roomBehind(c.Schemas, api.Schema{Name: "spare"})
	return c
}

func roomBehind[T any](l []T, spare T) []T {
	more := append(slices.Clone(l), spare, spare, spare)
	return more[:len(l)]
}

// whole is a configuration with all lists as long as they have room.
func whole(c api.Config) api.Config {
	c.Levels = c.Levels[:cap(c.Levels)]
	c.Schemas = slices.Clone(c.Schemas[:cap(c.Schemas)])
	for i := range c.Schemas {
		c.Schemas[i].Rules = slices.Clone(c.Schemas[i].Rules[:cap(c.Schemas[i].Rules)])
		for j := range c.Schemas[i].Rules {
			for _, l := range listsOf(&c.Schemas[i].Rules[j]) {
				*l = (*l)[:cap(*l)]
			}
		}
	}
	return c
}

// textsIn are all words of the rules' lists, with those that stand in their spare room.
func textsIn(c api.Config) []*string {
	var words []*string
	for _, s := range whole(c).Schemas {
		for j := range s.Rules {
			for _, l := range listsOf(&s.Rules[j]) {
				for k := range *l {
					words = append(words, &(*l)[k])
				}
			}
		}
	}
	return words
}

// overwrite all that a configuration leads to, its spare room too: the words first, then the lists in which they stand.
func overwrite(c api.Config) {
	for _, word := range textsIn(c) {
		*word = "written over"
	}
	for _, s := range c.Schemas[:cap(c.Schemas)] {
		for j := range s.Rules[:cap(s.Rules)] {
			s.Rules[:cap(s.Rules)][j] = api.Rule{Users: []string{"written", "over"}}
		}
	}
	for i := range c.Levels[:cap(c.Levels)] {
		c.Levels[:cap(c.Levels)][i] = api.Level{Name: "written over", Kind: -7}
	}
	for i := range c.Schemas[:cap(c.Schemas)] {
		c.Schemas[:cap(c.Schemas)][i] = api.Schema{Name: "written over", Rank: -7}
	}
}

// several are configurations of all sorts, each list with spare room: nothing, what is filled, and mixed ones.
func several() []api.Config {
	r := seed
	l := []api.Config{withRoom(api.Config{}), withRoom(base()), withRoom(fill.Fill(api.Config{})), {}, base()}
	for range 2000 {
		l = append(l, withRoom(mixed(&r)))
	}
	return l
}

// Rule 3: what is handed in is not changed, its spare room neither; and an answer is memory of its own: written over,
// what was given and the next answer stay as they are.
func TestOwnMemory(t *testing.T) {
	for _, c := range several() {
		given, want := copyOf(whole(c)), filled(c)
		first := fill.Fill(c)
		if !same(whole(c), given) {
			t.Fatalf("changed: %+v", c)
		}
		second := fill.Fill(c)
		overwrite(first)
		if !same(whole(c), given) {
			t.Fatalf("written over by the answer: %+v", c)
		}
		if !same(second, want) {
			t.Fatalf("written over by the answer ahead of it: %+v", second)
		}
		third := fill.Fill(c)
		if !same(third, want) {
			t.Fatalf("another answer once the first one was written over: %+v", third)
		}
		overwrite(c)
		if !same(third, want) {
			t.Fatalf("written over by what was given: %+v", third)
		}
		fills(t, api.Config{}, filled(api.Config{}))
	}
}

// Rule 3: no two lists of one answer share any memory, also where those that were given do.
func TestListsApart(t *testing.T) {
	word := []string{"a", "b"}
	rule := api.Rule{Users: word, Groups: word, Verbs: word[:1], Resources: word, Spaces: word}
	rules := []api.Rule{rule, rule}
	shared := api.Config{Schemas: []api.Schema{{Name: "s", Rules: rules}, {Name: "t", Rules: rules}, {Name: "u", Rules: rules[:1]}}}
	for _, c := range append(several(), shared) {
		answer := fill.Fill(c)
		words := textsIn(answer)
		for i, w := range words {
			*w = fmt.Sprint(i)
		}
		for i, w := range words {
			if *w != fmt.Sprint(i) {
				t.Fatalf("two lists share %q", *w)
			}
		}
		for i := range answer.Schemas {
			rules := answer.Schemas[i].Rules[:cap(answer.Schemas[i].Rules)]
			for j := range rules {
				rules[j] = api.Rule{Users: []string{fmt.Sprint(i), fmt.Sprint(j)}}
			}
		}
		for i := range answer.Schemas {
			for j, rule := range answer.Schemas[i].Rules[:cap(answer.Schemas[i].Rules)] {
				if !slices.Equal(rule.Users, []string{fmt.Sprint(i), fmt.Sprint(j)}) {
					t.Fatalf("two schemas share a rule: %+v", rule)
				}
			}
		}
	}
	check(t, shared)
}

// Rule 4: an answer hangs on the configuration alone, not on those that were filled ahead of it.
func TestCallsApart(t *testing.T) {
	r := seed
	one := withRoom(mixed(&r))
	want := filled(one)
	for range 1000 {
		fill.Fill(mixed(&r))
		fills(t, one, want)
	}
}
