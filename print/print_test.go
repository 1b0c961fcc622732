package print_test

import (
	"fmt"
	"math"
	"reflect"
	"slices"
	"strings"
	"testing"

	"usher/api"
	"usher/conf"
	"usher/print"
)

// random are numbers, the same ones each time.
type random uint64

func (r *random) next() uint64 {
	x := uint64(*r)
	x ^= x << 13
	x ^= x >> 7
	x ^= x << 17
	*r = random(x)
	return x
}

func (r *random) below(n int) int { return int((r.next() >> 11) % uint64(n)) }

// from least to most: either end as often as all that lies between them.
func (r *random) from(least, most int) int {
	switch r.below(4) {
	case 0:
		return least
	case 1:
		return most
	}
	return least + r.below(most-least+1)
}

func pick[T any](r *random, of ...T) T { return of[r.below(len(of))] }

const seed = random(88172645463325252)

// lines of a text, each with a newline behind it.
func lines(l ...string) string { return strings.Join(append(l, ""), "\n") }

// copyOf a configuration shares nothing with it, and has nil in place of each empty list.
func copyOf(c api.Config) api.Config {
	c.Levels = append([]api.Level(nil), c.Levels...)
	c.Schemas = append([]api.Schema(nil), c.Schemas...)
	for i := range c.Schemas {
		c.Schemas[i].Rules = append([]api.Rule(nil), c.Schemas[i].Rules...)
		for j := range c.Schemas[i].Rules {
			for _, l := range listsOf(&c.Schemas[i].Rules[j]) {
				*l = append([]string(nil), *l...)
			}
		}
	}
	return c
}

func listsOf(r *api.Rule) []*[]string {
	return []*[]string{&r.Users, &r.Groups, &r.Verbs, &r.Resources, &r.Spaces}
}

// same: nil and empty lists are.
func same(a, b api.Config) bool { return reflect.DeepEqual(copyOf(a), copyOf(b)) }

// What follows writes a configuration down, whether it may be or not, and asks layer 10 what it makes of that. A
// configuration that layer 10 makes of some text it makes of this one, too.

func writeList(l []string) string {
	if len(l) == 0 {
		return "-"
	}
	return strings.Join(l, ",")
}

func writeLevel(l api.Level) string {
	borrow := fmt.Sprint(l.Borrow)
	if l.Borrow == -1 {
		borrow = "all"
	}
	switch l.Kind {
	case 1:
		return fmt.Sprintf("level %s exempt\n", l.Name)
	case 2:
		return fmt.Sprintf("level %s %d %d %s reject\n", l.Name, l.Shares, l.Lend, borrow)
	case 3:
		return fmt.Sprintf("level %s %d %d %s queue %d %d %d %d %d\n", l.Name, l.Shares, l.Lend, borrow, l.Queues, l.Hand, l.Length, l.Wait, l.Guess)
	}
	return fmt.Sprintf("level %s of no kind\n", l.Name)
}

func writeSchema(s api.Schema) string {
	by := map[int]string{0: "none", 1: "user", 2: "space"}[s.By]
	var text strings.Builder
	fmt.Fprintf(&text, "schema %s %s %d %s\n", s.Name, s.Level, s.Rank, by)
	for _, r := range s.Rules {
		fmt.Fprintf(&text, "rule %s %s %s %s %s\n", writeList(r.Users), writeList(r.Groups), writeList(r.Verbs), writeList(r.Resources), writeList(r.Spaces))
	}
	return text.String()
}

// writeHead is all but the schemas.
func writeHead(c api.Config) string {
	var text strings.Builder
	if c.Total != 0 {
		fmt.Fprintf(&text, "total %d\n", c.Total)
	}
	if c.Period != 0 {
		fmt.Fprintf(&text, "period %d\n", c.Period)
	}
	if c.PerSeat != 0 || c.Most != 0 {
		fmt.Fprintf(&text, "seats %d %d\n", c.PerSeat, c.Most)
	}
	for _, l := range c.Levels {
		text.WriteString(writeLevel(l))
	}
	return text.String()
}

func write(c api.Config) string {
	var text strings.Builder
	text.WriteString(writeHead(c))
	for _, s := range c.Schemas {
		text.WriteString(writeSchema(s))
	}
	return text.String()
}

func reads(text string, c api.Config) bool {
	read, err := conf.Parse(text)
	return err == nil && same(read, c)
}

// isFormed asks for one schema after another, since layer 10 takes no text that is longer than MaxText: all rules of
// one schema do fit into that.
func isFormed(c api.Config) bool {
	head := c
	head.Schemas = nil
	if !reads(writeHead(c), head) {
		return false
	}
	names := map[string]int{}
	for _, s := range c.Schemas {
		names[s.Name]++
		if names[s.Name] > 1 || !reads(writeSchema(s), api.Config{Schemas: []api.Schema{s}}) {
			return false
		}
	}
	return len(c.Schemas) <= 32
}

// check holds both functions against what the chapter says of a configuration, and answers the error that there is.
func check(t *testing.T, c api.Config) api.Errno {
	t.Helper()
	formed, text, e := isFormed(c), write(c), api.OK
	switch {
	case !formed:
		text, e = "", api.ErrForm
	case len(text) > 65536:
		text, e = "", api.ErrLong
	}
	if got := print.Formed(c); got != formed {
		t.Fatalf("%+v: formed: %t", c, got)
	}
	got, gotE := print.Print(c)
	if got != text || gotE != e {
		t.Fatalf("%+v: printed as %.300q, %d; want %.300q, %d", c, got, gotE, text, e)
	}
	if e != api.OK {
		return e
	}
	read, err := conf.Parse(got)
	if err != nil || !same(read, c) {
		t.Fatalf("%q is read as %+v, %v; want %+v", got, read, err, c)
	}
	if again, e := print.Print(read); again != got || e != api.OK {
		t.Fatalf("%q is printed again as %q, %d", got, again, e)
	}
	return api.OK
}

// prints: it is formed, printed as this text, and read as it was.
func prints(t *testing.T, c api.Config, text string) {
	t.Helper()
	if got, e := print.Print(c); got != text || e != api.OK {
		t.Errorf("%+v: printed as %q, %d; want %q", c, got, e, text)
	}
	if !print.Formed(c) {
		t.Errorf("%+v: is not formed", c)
	}
	if !reads(text, c) {
		t.Errorf("%q: is not read as %+v", text, c)
	}
	check(t, c)
}

// isNone: no text tells it.
func isNone(t *testing.T, c api.Config) {
	t.Helper()
	if print.Formed(c) {
		t.Errorf("%+v: is formed", c)
	}
	if got, e := print.Print(c); got != "" || e != api.ErrForm {
		t.Errorf("%+v: printed as %q, %d", c, got, e)
	}
	check(t, c)
}

func ofLevels(l ...api.Level) api.Config { return api.Config{Levels: l} }

func ofSchemas(s ...api.Schema) api.Config { return api.Config{Schemas: s} }

func ofRules(r ...api.Rule) api.Config {
	return ofSchemas(api.Schema{Name: "s", Level: "a", Rank: 1, Rules: r})
}

// manyLevels and manySchemas: unlike ones.
func manyLevels(count int) []api.Level {
	var l []api.Level
	for i := range count {
		l = append(l, api.Level{Name: fmt.Sprintf("l%d", i), Kind: api.Exempt})
	}
	return l
}

func manySchemas(count int) []api.Schema {
	var s []api.Schema
	for i := range count {
		s = append(s, api.Schema{Name: fmt.Sprintf("s%d", i), Level: "a", Rank: 1})
	}
	return s
}

// numbered are unlike words.
func numbered(count int) []string {
	var l []string
	for i := range count {
		l = append(l, fmt.Sprintf("w%d", i))
	}
	return l
}

var all = []string{"*"}

func queue(name string) api.Level {
	return api.Level{Name: name, Kind: api.Queue, Queues: 1, Hand: 1, Length: 1, Wait: 1, Guess: 1}
}

// P11.1, P11.2: the chapter's examples.
func TestExamples(t *testing.T) {
	prints(t, api.Config{
		Total:  10,
		Levels: []api.Level{{Name: "a", Kind: api.Reject, Shares: 5, Borrow: -1}},
		Schemas: []api.Schema{{Name: "s", Level: "a", Rank: 7, By: api.ByUser, Rules: []api.Rule{
			{Users: all, Verbs: []string{"get", "list"}, Resources: all},
		}}},
	}, lines("total 10", "level a 5 0 all reject", "schema s a 7 user", "rule * - get,list * -"))
	isNone(t, ofLevels(api.Level{Name: "a", Kind: api.Exempt, Shares: 1}))
}

// P11.2: each kind of line, with each of its fields at its place.
func TestEachLine(t *testing.T) {
	prints(t, api.Config{}, "")
	prints(t, api.Config{Levels: []api.Level{}, Schemas: []api.Schema{}}, "")
	prints(t, api.Config{Total: 7}, "total 7\n")
	prints(t, api.Config{Period: 7}, "period 7\n")
	prints(t, api.Config{PerSeat: 7, Most: 8}, "seats 7 8\n")
	prints(t, api.Config{Total: 7, PerSeat: 8, Most: 9}, "total 7\nseats 8 9\n")
	prints(t, ofLevels(api.Level{Name: "a", Kind: api.Exempt}), "level a exempt\n")
	prints(t, ofLevels(api.Level{Name: "a", Kind: api.Reject, Shares: 1, Lend: 2, Borrow: 3}), "level a 1 2 3 reject\n")
	prints(t, ofLevels(api.Level{Name: "a", Kind: api.Reject}), "level a 0 0 0 reject\n")
	prints(t, ofLevels(api.Level{Name: "a", Kind: api.Reject, Borrow: -1}), "level a 0 0 all reject\n")
	prints(t, ofLevels(api.Level{
		Name: "a", Kind: api.Queue, Shares: 1, Lend: 2, Borrow: 3, Queues: 4, Hand: 5, Length: 6, Wait: 7, Guess: 8,
	}), "level a 1 2 3 queue 4 5 6 7 8\n")
	prints(t, ofLevels(queue("a")), "level a 0 0 0 queue 1 1 1 1 1\n")
	prints(t, ofSchemas(api.Schema{Name: "s", Level: "a", Rank: 1, By: api.ByNone}), "schema s a 1 none\n")
	prints(t, ofSchemas(api.Schema{Name: "s", Level: "a", Rank: 2, By: api.ByUser}), "schema s a 2 user\n")
	prints(t, ofSchemas(api.Schema{Name: "s", Level: "a", Rank: 3, By: api.BySpace}), "schema s a 3 space\n")
	prints(t, ofRules(api.Rule{
		Users: []string{"u"}, Groups: []string{"h", "g"}, Verbs: []string{"v"}, Resources: []string{"r"}, Spaces: []string{"c", "b", "a"},
	}), lines("schema s a 1 none", "rule u h,g v r c,b,a"))
	prints(t, ofRules(api.Rule{}, api.Rule{Users: all, Groups: all, Verbs: all, Resources: all, Spaces: all}, api.Rule{}),
		lines("schema s a 1 none", "rule - - - - -", "rule * * * * *", "rule - - - - -"))
}

// P11.2: the lines stand in the order of the chapter, levels, schemas and rules in that of the configuration.
func TestOrder(t *testing.T) {
	rule := func(user string) api.Rule { return api.Rule{Users: []string{user}} }
	prints(t, api.Config{
		Total: 5, Period: 6, PerSeat: 3, Most: 4,
		Levels: []api.Level{
			{Name: "b", Kind: api.Exempt}, queue("c"), {Name: "a", Kind: api.Exempt}, {Name: "aa", Kind: api.Reject},
		},
		Schemas: []api.Schema{
			{Name: "z", Level: "b", Rank: 9, Rules: []api.Rule{rule("z"), rule("y")}},
			{Name: "a", Level: "c", Rank: 1, By: api.ByUser},
			{Name: "m", Level: "a", Rank: 2, By: api.BySpace, Rules: []api.Rule{rule("x"), rule("z"), rule("x")}},
		},
	}, lines(
		"total 5", "period 6", "seats 3 4",
		"level b exempt", "level c 0 0 0 queue 1 1 1 1 1", "level a exempt", "level aa 0 0 0 reject",
		"schema z b 9 none", "rule z - - - -", "rule y - - - -", "schema a c 1 user",
		"schema m a 2 space", "rule x - - - -", "rule z - - - -", "rule x - - - -",
	))
}

// P11.1: words that a line begins with, or that have a meaning at one place, may be names and words at the others.
func TestNamesLikeWords(t *testing.T) {
	for _, w := range []string{"total", "period", "seats", "level", "schema", "rule", "exempt", "reject", "queue", "all", "none", "user", "space"} {
		one := []string{w}
		prints(t, api.Config{
			Levels: []api.Level{{Name: w, Kind: api.Exempt}},
			Schemas: []api.Schema{{Name: w, Level: w, Rank: 1, Rules: []api.Rule{
				{Users: one, Groups: one, Verbs: one, Resources: one, Spaces: one},
			}}},
		}, strings.ReplaceAll(lines("level W exempt", "schema W W 1 none", "rule W W W W W"), "W", w))
	}
}

// far are numbers that are within no bounds.
var far = []int{-2, -100, 1 << 30, math.MinInt, math.MinInt + 1, math.MaxInt, math.MaxInt - 1, 1 << 32, 1<<32 + 1, 1 << 62, -1 << 62}

// P11.1: the bounds of each number.
func TestNumbers(t *testing.T) {
	level := func(l api.Level) api.Config { return ofLevels(l) }
	reject := func(shares, lend, borrow int) api.Config {
		return level(api.Level{Name: "a", Kind: api.Reject, Shares: shares, Lend: lend, Borrow: borrow})
	}
	queues := func(shares, lend, borrow, queues, hand, length, wait, guess int) api.Config {
		return level(api.Level{Name: "a", Kind: api.Queue, Shares: shares, Lend: lend, Borrow: borrow,
			Queues: queues, Hand: hand, Length: length, Wait: wait, Guess: guess})
	}
	for _, c := range []struct {
		name        string
		least, most int
		with        func(n int) api.Config
	}{
		// The first two may be 0, too, and are not printed then.
		{"total", 0, 4096, func(n int) api.Config { return api.Config{Total: n} }},
		{"period", 0, 1000, func(n int) api.Config { return api.Config{Period: n} }},
		{"per seat", 1, 1 << 20, func(n int) api.Config { return api.Config{PerSeat: n, Most: 16} }},
		{"most", 1, 16, func(n int) api.Config { return api.Config{PerSeat: 1 << 20, Most: n} }},
		{"shares", 0, 10000, func(n int) api.Config { return reject(n, 100, 1000) }},
		{"lend", 0, 100, func(n int) api.Config { return reject(10000, n, 1000) }},
		{"borrow", -1, 1000, func(n int) api.Config { return reject(10000, 100, n) }},
		{"shares of a queue", 0, 10000, func(n int) api.Config { return queues(n, 0, -1, 1, 1, 1, 1, 1) }},
		{"lend of a queue", 0, 100, func(n int) api.Config { return queues(0, n, -1, 1, 1, 1, 1, 1) }},
		{"borrow of a queue", -1, 1000, func(n int) api.Config { return queues(0, 0, n, 1, 1, 1, 1, 1) }},
		{"queues", 1, 64, func(n int) api.Config { return queues(0, 0, -1, n, 8, 64, 1000, 1000) }},
		{"hand", 1, 8, func(n int) api.Config { return queues(0, 0, -1, 1, n, 64, 1000, 1000) }},
		{"length", 1, 64, func(n int) api.Config { return queues(0, 0, -1, 64, 8, n, 1000, 1000) }},
		{"wait", 1, 1000, func(n int) api.Config { return queues(0, 0, -1, 64, 8, 64, n, 1000) }},
		{"guess", 1, 1000, func(n int) api.Config { return queues(0, 0, -1, 64, 8, 64, 1000, n) }},
		{"rank", 1, 10000, func(n int) api.Config { return ofSchemas(api.Schema{Name: "s", Level: "a", Rank: n}) }},
	} {
		for _, n := range []int{c.least, c.least + 1, c.least + 2, (c.least + c.most) / 2, c.most - 1, c.most} {
			if e := check(t, c.with(n)); e != api.OK {
				t.Errorf("%s %d: error %d", c.name, n, e)
			}
		}
		for _, n := range append([]int{c.least - 1, c.most + 1, c.most + 2, 2*c.most + 1}, far...) {
			isNone(t, c.with(n))
		}
	}
}

// P11.1: what is told by one line is there whole, or is not there.
func TestSeats(t *testing.T) {
	prints(t, api.Config{PerSeat: 1, Most: 1}, "seats 1 1\n")
	prints(t, api.Config{PerSeat: 1 << 20, Most: 16}, "seats 1048576 16\n")
	for _, n := range append([]int{1, 2, 16, 17, 1 << 20, 1<<20 + 1, -1}, far...) {
		isNone(t, api.Config{PerSeat: n})
		isNone(t, api.Config{Most: n})
		isNone(t, api.Config{PerSeat: n, Most: -1})
		isNone(t, api.Config{PerSeat: -1, Most: n})
	}
}

// P11.1: a kind is one of the three.
func TestKinds(t *testing.T) {
	for _, kind := range append([]int{0, -1, 4, 5}, far...) {
		isNone(t, ofLevels(api.Level{Name: "a", Kind: kind}))
		whole := queue("a")
		whole.Kind = kind
		isNone(t, ofLevels(whole))
	}
	isNone(t, ofLevels(api.Level{}))
	isNone(t, ofLevels(api.Level{Name: "a", Kind: api.Queue})) // its lanes may not be 0
}

// P11.1: a By is one of the three.
func TestBy(t *testing.T) {
	for _, by := range append([]int{-1, 3, 4}, far...) {
		isNone(t, ofSchemas(api.Schema{Name: "s", Level: "a", Rank: 1, By: by}))
	}
	isNone(t, ofSchemas(api.Schema{}))
}

// P11.1: each number that a level's kind does not use is 0.
func TestUnused(t *testing.T) {
	fields := func(l *api.Level) []*int {
		return []*int{&l.Shares, &l.Lend, &l.Borrow, &l.Queues, &l.Hand, &l.Length, &l.Wait, &l.Guess}
	}
	for _, c := range []struct {
		kind, used int // the first fields are used
	}{{api.Exempt, 0}, {api.Reject, 3}, {api.Queue, 8}} {
		for i := range 8 {
			for _, n := range append([]int{1, -1, 3}, far...) {
				l := api.Level{Name: "a", Kind: c.kind}
				if c.kind == api.Queue {
					l = queue("a")
				}
				*fields(&l)[i] = n
				if i >= c.used {
					isNone(t, ofLevels(l))
					isNone(t, ofLevels(api.Level{Name: "b", Kind: api.Exempt}, l))
				}
				check(t, ofLevels(l))
			}
		}
	}
}

var wrongNames = []string{
	"", "A", "aA", "0", "0a", "-", "-a", "*", "a_", "a.b", "a/b", "a,b", "a b", " a", "a ", " ", "é", "aé", "a\t", "\x00", "a\x00",
	"a\xff", "a#", "#", "a\n", "\n", "a\nb", "a exempt\nlevel b", "a exempt\n#", "s a 1 none\nschema t", strings.Repeat("z", 33), strings.Repeat("z", 70000),
}

// P11.1: the names of levels and schemas, and the level that a schema names.
func TestNames(t *testing.T) {
	for _, name := range []string{"a", "z", "a-", "a0", "catch-all", strings.Repeat("z", 32), "a" + strings.Repeat("-", 31)} {
		prints(t, ofLevels(api.Level{Name: name, Kind: api.Exempt}), "level "+name+" exempt\n")
		prints(t, ofLevels(api.Level{Name: name, Kind: api.Reject}), "level "+name+" 0 0 0 reject\n")
		prints(t, ofLevels(queue(name)), "level "+name+" 0 0 0 queue 1 1 1 1 1\n")
		prints(t, ofSchemas(api.Schema{Name: name, Level: "a", Rank: 1}), "schema "+name+" a 1 none\n")
		prints(t, ofSchemas(api.Schema{Name: "a", Level: name, Rank: 1}), "schema a "+name+" 1 none\n")
	}
	for _, name := range wrongNames {
		isNone(t, ofLevels(api.Level{Name: name, Kind: api.Exempt}))
		isNone(t, ofLevels(api.Level{Name: name, Kind: api.Reject}))
		isNone(t, ofLevels(queue(name)))
		isNone(t, ofLevels(queue("b"), queue(name), queue("c")))
		isNone(t, ofSchemas(api.Schema{Name: name, Level: "a", Rank: 1}))
		isNone(t, ofSchemas(api.Schema{Name: "a", Level: name, Rank: 1}))
		isNone(t, ofSchemas(manySchemas(2)[0], api.Schema{Name: "a", Level: name, Rank: 1}, manySchemas(2)[1]))
	}
}

// P11.1: a name stands once among the levels, and once among the schemas; a level may be named as a schema is, or
// named by several, or by one though it isn't there.
func TestTwice(t *testing.T) {
	isNone(t, ofLevels(queue("a"), queue("a")))
	isNone(t, ofLevels(queue("a"), api.Level{Name: "a", Kind: api.Exempt}))
	isNone(t, ofSchemas(api.Schema{Name: "a", Level: "b", Rank: 1}, api.Schema{Name: "a", Level: "b", Rank: 1}))
	isNone(t, ofSchemas(api.Schema{Name: "a", Level: "b", Rank: 1}, api.Schema{Name: "a", Level: "c", Rank: 2}))
	for one := range 16 {
		for other := range one {
			levels := manyLevels(16)
			levels[one].Name = levels[other].Name
			isNone(t, ofLevels(levels...))
			isNone(t, ofLevels(levels[:one+1]...))
			check(t, ofLevels(levels[:one]...))
		}
	}
	for one := range 32 {
		for other := range one {
			schemas := manySchemas(32)
			schemas[one].Name = schemas[other].Name
			isNone(t, ofSchemas(schemas...))
			isNone(t, ofSchemas(schemas[:one+1]...))
			check(t, ofSchemas(schemas[:one]...))
		}
	}
	same := api.Rule{Users: []string{"u"}, Groups: []string{"u"}}
	prints(t, api.Config{
		Levels: []api.Level{{Name: "a", Kind: api.Exempt}, {Name: "b", Kind: api.Exempt}},
		Schemas: []api.Schema{
			{Name: "b", Level: "a", Rank: 1, Rules: []api.Rule{same, same}}, {Name: "a", Level: "a", Rank: 1}, {Name: "c", Level: "d", Rank: 1},
		},
	}, lines("level a exempt", "level b exempt", "schema b a 1 none", "rule u u - - -", "rule u u - - -", "schema a a 1 none", "schema c d 1 none"))
}

// P11.1: how many levels, schemas and rules there may be.
func TestCounts(t *testing.T) {
	for count := range 20 {
		c := ofLevels(manyLevels(count)...)
		if e := check(t, c); (e == api.OK) != (count <= 16) {
			t.Errorf("%d levels: error %d", count, e)
		}
		if got := print.Formed(c); got != (count <= 16) {
			t.Errorf("%d levels: formed: %t", count, got)
		}
	}
	for count := range 40 {
		c := ofSchemas(manySchemas(count)...)
		if e := check(t, c); (e == api.OK) != (count <= 32) {
			t.Errorf("%d schemas: error %d", count, e)
		}
		if got := print.Formed(c); got != (count <= 32) {
			t.Errorf("%d schemas: formed: %t", count, got)
		}
	}
	for count := range 12 {
		for _, place := range []int{0, 1, 31} {
			c := ofSchemas(manySchemas(32)...)
			c.Schemas[place].Rules = make([]api.Rule, count)
			if e := check(t, c); (e == api.OK) != (count <= 8) {
				t.Errorf("%d rules: error %d", count, e)
			}
			if got := print.Formed(c); got != (count <= 8) {
				t.Errorf("%d rules: formed: %t", count, got)
			}
		}
	}
	isNone(t, ofLevels(manyLevels(50000)...))
	isNone(t, ofSchemas(manySchemas(50000)...))
	isNone(t, ofRules(make([]api.Rule, 50000)...))
}

// P11.1: how many rules there are in all does not matter.
func TestAllThatThereMayBe(t *testing.T) {
	c := api.Config{Total: 4096, Period: 1000, PerSeat: 1 << 20, Most: 16, Levels: manyLevels(16), Schemas: manySchemas(32)}
	for i := range c.Levels {
		c.Levels[i] = queue(c.Levels[i].Name)
	}
	for i := range c.Schemas {
		c.Schemas[i].Rules = make([]api.Rule, 8)
	}
	if e := check(t, c); e != api.OK {
		t.Errorf("error %d", e)
	}
}

// P11.1, P11.2: lists that are some, and those that are none, at each of the five places.
func TestLists(t *testing.T) {
	long := strings.Repeat("w", 64)
	right := map[string][]string{
		"-": {}, "*": all, "a": {"a"}, "A": {"A"}, "a,b": {"a", "b"}, "b,a": {"b", "a"}, "a,A": {"a", "A"}, "a-,-a,--": {"a-", "-a", "--"},
		"0,00": {"0", "00"}, "system:masters": {"system:masters"}, ".,_,:,/,@": {".", "_", ":", "/", "@"}, long: {long}, "all": {"all"},
		"w0,w1,w2,w3,w4,w5,w6,w7": numbered(8),
	}
	wrong := [][]string{
		{""}, {"-"}, {","}, {"a,b"}, {"a,"}, {"*,*"}, {" "}, {"a b"}, {" a"}, {"a "}, {"#"}, {"a#"}, {"**"}, {"a*"}, {"é"}, {"\xff"}, {"\x00"},
		{"a\n"}, {"\n"}, {"a\t"}, {"- - - - -\nrule -"}, {"a\nrule a a a a a"}, {strings.Repeat("w", 65)}, {strings.Repeat("w", 70000)},
		{"", ""}, {"a", ""}, {"", "a"}, {"a", "a"}, {"a", "b", "a"}, {"*", "*"}, {"a", "*"}, {"*", "a"}, {"-", "a"}, {"a", "-"}, {"a", "b c"},
		{"a", "b", "c", "d", "e", "f", "g", "a"}, {"a", "b", "c", "d", "e", "f", "g", "g"}, {"a", "b", "c", "d", "e", "f", "g", "*"},
		{"a", "b", "c", "d", "e", "f", "g", strings.Repeat("w", 65)}, numbered(9), numbered(16), numbered(50000),
	}
	for place := range 5 {
		for word, l := range right {
			var r api.Rule
			*listsOf(&r)[place] = l
			w := []string{"rule", "-", "-", "-", "-", "-"}
			w[place+1] = word
			prints(t, ofRules(r), lines("schema s a 1 none", strings.Join(w, " ")))
			prints(t, ofRules(api.Rule{}, r), lines("schema s a 1 none", "rule - - - - -", strings.Join(w, " ")))
		}
		for _, l := range wrong {
			var r api.Rule
			*listsOf(&r)[place] = l
			isNone(t, ofRules(r))
			isNone(t, ofRules(api.Rule{Users: all}, r))
			c := ofSchemas(manySchemas(32)...)
			c.Schemas[31].Rules = append(make([]api.Rule, 7), r)
			isNone(t, c)
		}
	}
}

// P11.1, P11.2: a word with each byte in it, in lists and names.
func TestAnyBytes(t *testing.T) {
	for b := range 256 {
		for _, form := range []string{"?", "a?", "?a", "a?a"} {
			w := strings.ReplaceAll(form, "?", string([]byte{byte(b)}))
			check(t, ofRules(api.Rule{Users: []string{w}}))
			check(t, ofRules(api.Rule{Spaces: []string{"b", w}}))
			check(t, ofLevels(api.Level{Name: w, Kind: api.Exempt}))
			check(t, ofSchemas(api.Schema{Name: w, Level: "a", Rank: 1}))
			check(t, ofSchemas(api.Schema{Name: "a", Level: w, Rank: 1}))
		}
	}
}

// longWords are unlike words, all as long as a word may be.
func longWords() []string {
	var l []string
	for i := range 8 {
		l = append(l, strings.Repeat("w", 63)+fmt.Sprint(i))
	}
	return l
}

// ofLength is a configuration whose text has so many bytes, of 1000 and more: lists of long words are put in until that
// is too long, by less than a list of them and a rule have, and then the first words are made shorter.
func ofLength(t *testing.T, bytes int) api.Config {
	t.Helper()
	c := ofSchemas(manySchemas(32)...)
	length := len(write(c))
	for i := 0; length < bytes; i++ {
		rules := &c.Schemas[i/40].Rules
		if i%5 == 0 {
			*rules = append(*rules, api.Rule{})
			length += len("rule - - - - -\n")
		}
		*listsOf(&(*rules)[len(*rules)-1])[i%5] = longWords()
		length += len(strings.Join(longWords(), ",")) - len("-")
	}
	for _, l := range listsOf(&c.Schemas[0].Rules[0]) {
		for k := range *l {
			less := min(length-bytes, 63)
			(*l)[k] = (*l)[k][less:]
			length -= less
		}
	}
	if len(write(c)) != bytes {
		t.Fatalf("%d bytes, not %d", len(write(c)), bytes)
	}
	return c
}

// P11.1, P11.2: a text of just so many bytes as there may be, and of one more.
func TestLongTexts(t *testing.T) {
	for bytes, want := range map[int]api.Errno{
		65000: api.OK, 65535: api.OK, 65536: api.OK, 65537: api.ErrLong, 65538: api.ErrLong, 66000: api.ErrLong, 131072: api.ErrLong, 600000: api.ErrLong,
	} {
		c := ofLength(t, bytes)
		if !print.Formed(c) {
			t.Errorf("%d bytes: is not formed", bytes)
		}
		text, e := print.Print(c)
		if e != want || e == api.OK && len(text) != bytes || e != api.OK && text != "" {
			t.Errorf("%d bytes: %d bytes, error %d", bytes, len(text), e)
		}
		check(t, c)
		c.Total = -1
		isNone(t, c) // ErrForm goes ahead of ErrLong
	}
}

// P11.2: each kind of line counts: with it a text that was just as long as it may be is too long.
func TestLongByOneLine(t *testing.T) {
	for _, more := range []api.Config{
		{Total: 1}, {Period: 1}, {PerSeat: 1, Most: 1}, ofLevels(api.Level{Name: "a", Kind: api.Exempt}),
		ofLevels(api.Level{Name: "a", Kind: api.Reject}), ofLevels(queue("a")),
	} {
		length := len(write(more))
		for bytes, want := range map[int]api.Errno{65536: api.ErrLong, 65537 - length: api.ErrLong, 65536 - length: api.OK, 65535 - length: api.OK} {
			c := more
			c.Schemas = ofLength(t, bytes).Schemas
			if e := check(t, c); e != want {
				t.Errorf("%+v and %d bytes: error %d", more, bytes, e)
			}
		}
	}
}

// P11.1, P11.2: what is read of a text without a newline at its end may be too long to be printed, by that newline.
func TestLastNewline(t *testing.T) {
	text := strings.TrimSuffix(write(ofLength(t, 65537)), "\n")
	c, err := conf.Parse(text)
	if err != nil || !print.Formed(c) {
		t.Fatal(err)
	}
	if got, e := print.Print(c); got != "" || e != api.ErrLong {
		t.Errorf("%d bytes, error %d", len(got), e)
	}
}

func mixedName(r *random) string {
	if r.below(3) == 0 {
		return pick(r, "all", "exempt", "level", "a-b", strings.Repeat("n", 32))
	}
	return fmt.Sprintf("n%d", r.below(200))
}

func mixedLevel(r *random) api.Level {
	l := api.Level{Name: mixedName(r), Kind: 1 + r.below(3)}
	if l.Kind != api.Exempt {
		l.Shares, l.Lend, l.Borrow = r.from(0, 10000), r.from(0, 100), r.from(-1, 1000)
	}
	if l.Kind == api.Queue {
		l.Queues, l.Hand, l.Length, l.Wait, l.Guess = r.from(1, 64), r.from(1, 8), r.from(1, 64), r.from(1, 1000), r.from(1, 1000)
	}
	return l
}

func mixedList(r *random) []string {
	switch r.below(4) {
	case 0:
		return nil
	case 1:
		return []string{"*"}
	}
	l := []string{"a", "B", "0", "x:y", "--", ".", "a/b@c_", strings.Repeat("w", 64), "get", "list", "watch"}
	for i := range l {
		j := r.below(i + 1)
		l[i], l[j] = l[j], l[i]
	}
	return l[:1+r.below(8)]
}

func mixedSchema(r *random) api.Schema {
	s := api.Schema{Name: mixedName(r), Level: mixedName(r), Rank: r.from(1, 10000), By: r.below(3)}
	for range r.below(3) * r.below(5) {
		s.Rules = append(s.Rules, api.Rule{
			Users: mixedList(r), Groups: mixedList(r), Verbs: mixedList(r), Resources: mixedList(r), Spaces: mixedList(r),
		})
	}
	return s
}

// mixed is a configuration that is formed, but for names that now and then stand twice.
func mixed(r *random) api.Config {
	var c api.Config
	if r.below(3) > 0 {
		c.Total = r.from(1, 4096)
	}
	if r.below(3) > 0 {
		c.Period = r.from(1, 1000)
	}
	if r.below(3) > 0 {
		c.PerSeat, c.Most = r.from(1, 1<<20), r.from(1, 16)
	}
	for range r.below(5) {
		c.Levels = append(c.Levels, mixedLevel(r))
	}
	for range r.below(4) {
		c.Schemas = append(c.Schemas, mixedSchema(r))
	}
	return c
}

// numbersOf are all numbers of a configuration, textsOf all its texts.
func numbersOf(c *api.Config) []*int {
	n := []*int{&c.Total, &c.Period, &c.PerSeat, &c.Most}
	for i := range c.Levels {
		l := &c.Levels[i]
		n = append(n, &l.Kind, &l.Shares, &l.Lend, &l.Borrow, &l.Queues, &l.Hand, &l.Length, &l.Wait, &l.Guess)
	}
	for i := range c.Schemas {
		n = append(n, &c.Schemas[i].Rank, &c.Schemas[i].By)
	}
	return n
}

func textsOf(c *api.Config) []*string {
	var s []*string
	for i := range c.Levels {
		s = append(s, &c.Levels[i].Name)
	}
	for i := range c.Schemas {
		s = append(s, &c.Schemas[i].Name, &c.Schemas[i].Level)
		for j := range c.Schemas[i].Rules {
			for _, l := range listsOf(&c.Schemas[i].Rules[j]) {
				for k := range *l {
					s = append(s, &(*l)[k])
				}
			}
		}
	}
	return s
}

// spoilOne changes one thing of a configuration, which may be formed behind that or not.
func spoilOne(r *random, c *api.Config) {
	texts := textsOf(c)
	if len(texts) > 0 && r.below(2) == 0 {
		w := pick(r, texts...)
		*w = pick(r, "", "-", "*", "a", "A", "a,b", "a b", "a\n", "n1", *pick(r, texts...), strings.Repeat("n", 33), strings.Repeat("w", 65), *w+"\xff", *w+"0")
		return
	}
	n := pick(r, numbersOf(c)...)
	*n = pick(r, 0, 0, -1, -2, 1, 2, 3, 4, *n+1, *n-1, 9, 17, 65, 101, 1001, 4097, 10001, 1<<20+1, pick(r, far...))
}

// P11.1, P11.2, P11.3: mixed configurations, as they are and with one thing changed.
func TestMixed(t *testing.T) {
	r := seed
	seen := map[api.Errno]int{}
	for range 30000 {
		c := mixed(&r)
		seen[check(t, c)]++
		spoilOne(&r, &c)
		seen[check(t, c)]++
		spoilOne(&r, &c)
		check(t, c)
	}
	for _, e := range []api.Errno{api.OK, api.ErrForm} {
		if seen[e] < 5000 {
			t.Errorf("only %d configurations with %d", seen[e], e)
		}
	}
}

// P11.1, P11.3: whatever layer 10 makes of a text is formed; printed, read and printed again it is the same.
func TestWhatIsRead(t *testing.T) {
	r := seed
	seen := 0
	for range 20000 {
		l := strings.Split(strings.TrimSuffix(write(mixed(&r)), "\n"), "\n")
		for range r.below(3) {
			l = slices.Insert(l, r.below(len(l)+1), pick(&r, "", "  ", "# total 0", "total 1", "level zz exempt", "schema zz a 1 none", "rule - - - - -", "what"))
		}
		if len(l) > 0 && r.below(2) == 0 {
			i, j := r.below(len(l)), r.below(len(l))
			l[i], l[j] = l[j], l[i]
		}
		text := strings.ReplaceAll(strings.Join(l, "\n"), " ", strings.Repeat(" ", 1+r.below(3)))
		c, err := conf.Parse(text)
		if err != nil {
			continue
		}
		seen++
		if e := check(t, c); e != api.OK {
			t.Fatalf("%q: error %d", text, e)
		}
	}
	if seen < 5000 {
		t.Errorf("only %d texts were read", seen)
	}
}

// withRoom gives each list spare room, in which something stands.
func withRoom(c api.Config) api.Config {
	c = copyOf(c)
	for i := range c.Schemas {
		for j := range c.Schemas[i].Rules {
			for _, l := range listsOf(&c.Schemas[i].Rules[j]) {
				*l = roomBehind(*l, "spare")
			}
		}
		c.Schemas[i].Rules = roomBehind(c.Schemas[i].Rules, api.Rule{Users: []string{"spare"}})
	}
	c.Levels = roomBehind(c.Levels, api.Level{Name: "spare"})
	c.Schemas = roomBehind(c.Schemas, api.Schema{Name: "spare"})
	return c
}

func roomBehind[T any](l []T, spare T) []T {
	more := append(slices.Clone(l), spare, spare, spare)
	return more[:len(l)]
}

// whole is a configuration with all lists as long as they have room.
func whole(c api.Config) api.Config {
	c.Levels = c.Levels[:cap(c.Levels)]
	c.Schemas = slices.Clone(c.Schemas[:cap(c.Schemas)])
	for i := range c.Schemas {
		c.Schemas[i].Rules = slices.Clone(c.Schemas[i].Rules[:cap(c.Schemas[i].Rules)])
		for j := range c.Schemas[i].Rules {
			for _, l := range listsOf(&c.Schemas[i].Rules[j]) {
				*l = (*l)[:cap(*l)]
			}
		}
	}
	return c
}

// Rule 3: what is handed in is not changed, its spare room neither, whether it is formed or not.
func TestNothingIsChanged(t *testing.T) {
	r := seed
	for range 2000 {
		c := withRoom(mixed(&r))
		if r.below(2) == 0 {
			spoilOne(&r, &c)
		}
		ahead := copyOf(whole(c))
		print.Formed(c)
		print.Print(c)
		if !reflect.DeepEqual(copyOf(whole(c)), ahead) {
			t.Fatalf("changed: %+v", c)
		}
		check(t, c)
	}
}

// Rules 3 and 4: an answer hangs on the configuration alone, not on those that were printed ahead of it, nor on what
// becomes of it later.
func TestCallsApart(t *testing.T) {
	one := ofRules(api.Rule{Users: []string{"u", "v"}}, api.Rule{Spaces: all})
	one.Total = 3
	want := lines("total 3", "schema s a 1 none", "rule u,v - - - -", "rule - - - - *")
	for _, ahead := range []api.Config{{}, one, {Total: -1}, ofLevels(queue("a"), queue("a")), ofLength(t, 65536), ofLength(t, 65537)} {
		print.Formed(ahead)
		print.Print(ahead)
		prints(t, one, want)
	}
	text, _ := print.Print(one)
	one.Schemas[0].Rules[0].Users[0] = "w"
	one.Schemas[0].Rules[1] = api.Rule{}
	one.Schemas[0].Name = "t"
	if text != want {
		t.Errorf("%q", text)
	}
	prints(t, one, lines("total 3", "schema t a 1 none", "rule w,v - - - -", "rule - - - - -"))
}
