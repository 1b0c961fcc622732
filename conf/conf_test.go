package conf_test

import (
	"fmt"
	"reflect"
	"regexp"
	"slices"
	"strconv"
	"strings"
	"testing"

	"usher/api"
	"usher/conf"
	"usher/fault"
)

// random are numbers, the same ones each time.
type random uint64

func (r *random) next() uint64 {
	x := uint64(*r)
	x ^= x << 13
	x ^= x >> 7
	x ^= x << 17
	*r = random(x)
	return x
}

func (r *random) below(n int) int { return int((r.next() >> 11) % uint64(n)) }

func (r *random) one(of []string) string { return of[r.below(len(of))] }

const seed = random(88172645463325252)

// lines of a text.
func lines(l ...string) string { return strings.Join(l, "\n") }

// many lines: how many, each with its number where %d stands.
func many(count int, form string) []string {
	var l []string
	for i := range count {
		l = append(l, strings.ReplaceAll(form, "%d", strconv.Itoa(i)))
	}
	return l
}

// same: nil and empty lists are.
func same(a, b api.Config) bool { return reflect.DeepEqual(bare(a), bare(b)) }

// bare is a configuration with nil in place of each empty list.
func bare(c api.Config) api.Config {
	c.Levels = append([]api.Level(nil), c.Levels...)
	c.Schemas = append([]api.Schema(nil), c.Schemas...)
	for i := range c.Schemas {
		c.Schemas[i].Rules = append([]api.Rule(nil), c.Schemas[i].Rules...)
		for j := range c.Schemas[i].Rules {
			r := &c.Schemas[i].Rules[j]
			for _, l := range []*[]string{&r.Users, &r.Groups, &r.Verbs, &r.Resources, &r.Spaces} {
				*l = append([]string(nil), *l...)
			}
		}
	}
	return c
}

func reads(t *testing.T, text string, want api.Config) {
	t.Helper()
	c, err := conf.Parse(text)
	if err != nil || !same(c, want) {
		t.Errorf("%.200q: %+v, %v; want %+v", text, c, err, want)
	}
}

func refuses(t *testing.T, text string, line int, e api.Errno) {
	t.Helper()
	c, err := conf.Parse(text)
	if err != fault.At(line, e) {
		t.Errorf("%.200q: %v; want line %d, error %d", text, err, line, e)
	}
	if !reflect.DeepEqual(c, api.Config{}) {
		t.Errorf("%.200q: %+v beside an error", text, c)
	}
}

var all = []string{"*"}

// P10.1, P10.2: the chapter's examples.
func TestExamples(t *testing.T) {
	reads(t, lines("total 10", "level a 5 0 all reject", "schema s a 7 user", "rule * - get,list * -"), api.Config{
		Total:  10,
		Levels: []api.Level{{Name: "a", Kind: api.Reject, Shares: 5, Borrow: -1}},
		Schemas: []api.Schema{{Name: "s", Level: "a", Rank: 7, By: api.ByUser, Rules: []api.Rule{
			{Users: all, Verbs: []string{"get", "list"}, Resources: all},
		}}},
	})
	refuses(t, lines("", "total 0"), 2, api.ErrRange)
	refuses(t, lines("period 3", "total 0"), 2, api.ErrRange)
	refuses(t, "rule * * * * *", 1, api.ErrForm)
}

// P10.1: each kind of line tells its own fields and no others.
func TestEachLine(t *testing.T) {
	reads(t, "", api.Config{})
	reads(t, "\n", api.Config{})
	reads(t, "total 7", api.Config{Total: 7})
	reads(t, "total 7\n", api.Config{Total: 7})
	reads(t, "period 7", api.Config{Period: 7})
	reads(t, "seats 7 8", api.Config{PerSeat: 7, Most: 8})
	reads(t, "level a exempt", api.Config{Levels: []api.Level{{Name: "a", Kind: api.Exempt}}})
	reads(t, "level a 1 2 3 reject", api.Config{Levels: []api.Level{
		{Name: "a", Kind: api.Reject, Shares: 1, Lend: 2, Borrow: 3},
	}})
	reads(t, "level a 1 2 3 queue 4 5 6 7 8", api.Config{Levels: []api.Level{
		{Name: "a", Kind: api.Queue, Shares: 1, Lend: 2, Borrow: 3, Queues: 4, Hand: 5, Length: 6, Wait: 7, Guess: 8},
	}})
	reads(t, "level a 0 0 all queue 1 1 1 1 1", api.Config{Levels: []api.Level{
		{Name: "a", Kind: api.Queue, Borrow: -1, Queues: 1, Hand: 1, Length: 1, Wait: 1, Guess: 1},
	}})
	reads(t, "schema s a 1 none", api.Config{Schemas: []api.Schema{{Name: "s", Level: "a", Rank: 1, By: api.ByNone}}})
	reads(t, "schema s a 1 user", api.Config{Schemas: []api.Schema{{Name: "s", Level: "a", Rank: 1, By: api.ByUser}}})
	reads(t, "schema s a 1 space", api.Config{Schemas: []api.Schema{{Name: "s", Level: "a", Rank: 1, By: api.BySpace}}})
	reads(t, lines("schema s a 1 none", "rule a b,B c d,e,f -"), api.Config{Schemas: []api.Schema{
		{Name: "s", Level: "a", Rank: 1, Rules: []api.Rule{{
			Users: []string{"a"}, Groups: []string{"b", "B"}, Verbs: []string{"c"}, Resources: []string{"d", "e", "f"},
		}}},
	}})
	reads(t, lines("schema s a 1 none", "rule - * 1,2 - x:y"), api.Config{Schemas: []api.Schema{
		{Name: "s", Level: "a", Rank: 1, Rules: []api.Rule{{
			Groups: all, Verbs: []string{"1", "2"}, Spaces: []string{"x:y"},
		}}},
	}})
}

// P10.1: levels, schemas and rules keep the order of their lines, wherever the other lines stand; a rule is of the
// schema that was told last.
func TestOrder(t *testing.T) {
	text := lines(
		"schema z b 2 none", "rule z * * * *", "level b exempt", "rule y * * * *", "seats 3 4",
		"level a exempt", "schema a c 1 user", "schema m a 2 space", "total 5", "rule x * * * *", "period 6",
		"level c 0 100 1000 reject", "rule z * * * *", "rule x * * * *",
	)
	rule := func(user string) api.Rule {
		return api.Rule{Users: []string{user}, Groups: all, Verbs: all, Resources: all, Spaces: all}
	}
	reads(t, text, api.Config{
		Total: 5, Period: 6, PerSeat: 3, Most: 4,
		Levels: []api.Level{
			{Name: "b", Kind: api.Exempt}, {Name: "a", Kind: api.Exempt},
			{Name: "c", Kind: api.Reject, Lend: 100, Borrow: 1000},
		},
		Schemas: []api.Schema{
			{Name: "z", Level: "b", Rank: 2, Rules: []api.Rule{rule("z"), rule("y")}},
			{Name: "a", Level: "c", Rank: 1, By: api.ByUser},
			{Name: "m", Level: "a", Rank: 2, By: api.BySpace, Rules: []api.Rule{rule("x"), rule("z"), rule("x")}},
		},
	})
}

// P10.1: no word of a line has a meaning at another place, and a schema's level need not be there.
func TestNamesLikeWords(t *testing.T) {
	for _, w := range []string{"total", "period", "seats", "level", "schema", "rule", "exempt", "reject", "queue", "all", "none", "user", "space"} {
		reads(t, "level "+w+" exempt", api.Config{Levels: []api.Level{{Name: w, Kind: api.Exempt}}})
		reads(t, lines("schema "+w+" "+w+" 3 none", "rule "+strings.Repeat(w+" ", 5)), api.Config{Schemas: []api.Schema{
			{Name: w, Level: w, Rank: 3, Rules: []api.Rule{{Users: []string{w}, Groups: []string{w}, Verbs: []string{w},
				Resources: []string{w}, Spaces: []string{w}}}},
		}})
	}
	reads(t, lines("level a exempt", "schema a a 1 none"), api.Config{
		Levels:  []api.Level{{Name: "a", Kind: api.Exempt}},
		Schemas: []api.Schema{{Name: "a", Level: "a", Rank: 1}},
	})
}

// P10.2: the length of a text goes ahead of all.
func TestLongTexts(t *testing.T) {
	reads(t, strings.Repeat(" ", 65536), api.Config{})
	reads(t, strings.Repeat("\n", 65536), api.Config{})
	reads(t, "#"+strings.Repeat("x", 65535), api.Config{})
	reads(t, strings.Repeat(" ", 65529)+"total 1", api.Config{Total: 1})
	reads(t, "total"+strings.Repeat(" ", 65530)+"1", api.Config{Total: 1})
	reads(t, strings.Repeat("\n", 65528)+"total 1\n", api.Config{Total: 1})
	refuses(t, strings.Repeat(" ", 65537), 0, api.ErrLong)
	refuses(t, strings.Repeat("\n", 65537), 0, api.ErrLong)
	refuses(t, "#"+strings.Repeat("x", 65536), 0, api.ErrLong)
	refuses(t, "total 1"+strings.Repeat(" ", 65530), 0, api.ErrLong)
	refuses(t, "total 1"+strings.Repeat("\n", 65530), 0, api.ErrLong)
	refuses(t, "total 0\n"+strings.Repeat("x", 65536), 0, api.ErrLong)
	refuses(t, strings.Repeat("x", 1<<22), 0, api.ErrLong)
	refuses(t, string(make([]byte, 65536)), 1, api.ErrForm)
	refuses(t, string(make([]byte, 65537)), 0, api.ErrLong)
	refuses(t, strings.Repeat("\n", 65535)+"x", 65536, api.ErrForm)
	refuses(t, strings.Repeat("x ", 32768), 1, api.ErrForm)
	refuses(t, strings.Repeat("total ", 10000), 1, api.ErrForm)
}

// wellFormed are lines of all forms, each with all words that it has.
var wellFormed = []string{
	"total 1", "period 1", "seats 1 1", "level a exempt", "level a 1 1 1 reject", "level a 1 1 1 queue 1 1 1 1 1",
	"schema s a 1 none", "rule * * * * *",
}

// P10.2: a line has just its words, and its first one is one of the six.
func TestForms(t *testing.T) {
	const ahead = "schema other a 1 none\n" // so that a rule may be
	for _, line := range wellFormed {
		if _, err := conf.Parse(ahead + line); err != nil {
			t.Errorf("%q: %v", line, err)
		}
		w := strings.Split(line, " ")
		for count := 1; count < len(w); count++ {
			refuses(t, ahead+strings.Join(w[:count], " "), 2, api.ErrForm)
			refuses(t, ahead+strings.Join(slices.Delete(slices.Clone(w), count, count+1), " "), 2, api.ErrForm)
			refuses(t, ahead+strings.Join(slices.Insert(slices.Clone(w), count, "1"), " "), 2, api.ErrForm)
		}
		for _, more := range []string{"1", "a", "-", "*", "#", "# so", w[len(w)-1], line} {
			refuses(t, ahead+line+" "+more, 2, api.ErrForm)
		}
		for _, first := range []string{"what", strings.ToUpper(w[0]), w[0] + "s", w[0][1:], "\t" + w[0], w[0] + "\t", "-", "1", "x#", "\x00", "é", "\xff"} {
			refuses(t, ahead+first+line[len(w[0]):], 2, api.ErrForm)
		}
		refuses(t, ahead+strings.ReplaceAll(line, " ", "\t"), 2, api.ErrForm)
		refuses(t, ahead+line[:len(w[0])]+line[len(w[0])+1:], 2, api.ErrForm)
	}
}

// P10.2: levels have three words, six or eleven, and the kind at its place.
func TestFormsOfLevels(t *testing.T) {
	for count := 1; count <= 14; count++ {
		for _, kind := range []string{"exempt", "reject", "queue", "1", "Exempt", "rejects", "all"} {
			for place := 1; place < count; place++ {
				w := append([]string{"level", "a"}, many(13, "1")...)[:count]
				w[place] = kind
				if place == 1 {
					w[place] = "a"
				}
				line := strings.Join(w, " ")
				right := count == 3 && place == 2 && kind == "exempt" || count == 6 && place == 5 && kind == "reject" ||
					count == 11 && place == 5 && kind == "queue"
				if _, err := conf.Parse(line); right && err != nil {
					t.Errorf("%q: %v", line, err)
				}
				if !right {
					refuses(t, line, 1, api.ErrForm)
				}
			}
		}
	}
	refuses(t, "level a exempt exempt", 1, api.ErrForm)
	refuses(t, "level exempt", 1, api.ErrForm)
	refuses(t, "level", 1, api.ErrForm)
	refuses(t, "level a 1 1 1 exempt", 1, api.ErrForm)
	refuses(t, "level a reject", 1, api.ErrForm)
	refuses(t, "level a 1 1 1 reject 1 1 1 1 1", 1, api.ErrForm)
	refuses(t, "level a 1 1 1 queue", 1, api.ErrForm)
	refuses(t, "level a 1 1 1 1 queue 1 1 1 1", 1, api.ErrForm)
}

// P10.2: a rule has a schema ahead of it.
func TestRuleAheadOfSchemas(t *testing.T) {
	refuses(t, "rule - - - - -", 1, api.ErrForm)
	refuses(t, lines("rule * * * * *", "schema s a 1 none"), 1, api.ErrForm)
	refuses(t, lines("total 1", "level s exempt", "", "rule * * * * *"), 4, api.ErrForm)
	refuses(t, "rule , * * * *", 1, api.ErrForm)
}

// wrongNumbers are no numbers at all.
var wrongNumbers = []string{"-1", "+1", "01", "00", "1.", "1,", "0x1", "a", "-", "*", "ALL", "al", "alll", "1234567890", "4294967297", "18446744073709551617", "1\t", "\x001", "１", "1_0", "1e1"}

// P10.2: the bounds of each number, of which the form of the line tells the place by N.
func TestNumbers(t *testing.T) {
	for _, c := range []struct {
		line        string
		least, most int
		read        func(c api.Config) int
	}{
		{"total N", 1, 4096, func(c api.Config) int { return c.Total }},
		{"period N", 1, 1000, func(c api.Config) int { return c.Period }},
		{"seats N 16", 1, 1 << 20, func(c api.Config) int { return c.PerSeat }},
		{"seats 1048576 N", 1, 16, func(c api.Config) int { return c.Most }},
		{"level a N 0 0 reject", 0, 10000, func(c api.Config) int { return c.Levels[0].Shares }},
		{"level a 0 N 0 reject", 0, 100, func(c api.Config) int { return c.Levels[0].Lend }},
		{"level a 0 0 N reject", 0, 1000, func(c api.Config) int { return c.Levels[0].Borrow }},
		{"level a N 0 0 queue 1 1 1 1 1", 0, 10000, func(c api.Config) int { return c.Levels[0].Shares }},
		{"level a 0 N 0 queue 1 1 1 1 1", 0, 100, func(c api.Config) int { return c.Levels[0].Lend }},
		{"level a 0 0 N queue 1 1 1 1 1", 0, 1000, func(c api.Config) int { return c.Levels[0].Borrow }},
		{"level a 0 0 0 queue N 1 1 1 1", 1, 64, func(c api.Config) int { return c.Levels[0].Queues }},
		{"level a 0 0 0 queue 1 N 1 1 1", 1, 8, func(c api.Config) int { return c.Levels[0].Hand }},
		{"level a 0 0 0 queue 1 1 N 1 1", 1, 64, func(c api.Config) int { return c.Levels[0].Length }},
		{"level a 0 0 0 queue 1 1 1 N 1", 1, 1000, func(c api.Config) int { return c.Levels[0].Wait }},
		{"level a 0 0 0 queue 1 1 1 1 N", 1, 1000, func(c api.Config) int { return c.Levels[0].Guess }},
		{"schema s a N none", 1, 10000, func(c api.Config) int { return c.Schemas[0].Rank }},
	} {
		with := func(word string) string { return strings.Replace(c.line, "N", word, 1) }
		for _, n := range []int{c.least, c.least + 1, (c.least + c.most) / 2, c.most - 1, c.most} {
			read, err := conf.Parse(with(strconv.Itoa(n)))
			if err != nil || c.read(read) != n {
				t.Errorf("%q with %d: %+v, %v", c.line, n, read, err)
			}
		}
		for _, n := range []int{c.least - 1, c.most + 1, 2 * c.most, 999999999} {
			refuses(t, with(strconv.Itoa(n)), 1, api.ErrRange)
		}
		for _, word := range wrongNumbers {
			refuses(t, with(word), 1, api.ErrRange)
		}
		if !strings.Contains(c.line, "0 0 N") {
			refuses(t, with("all"), 1, api.ErrRange)
		}
	}
}

// P10.2: a NAME, and a LEVEL.
func TestNames(t *testing.T) {
	level := func(c api.Config) string { return c.Levels[0].Name }
	for form, read := range map[string]func(c api.Config) string{
		"level N exempt":                level,
		"level N 1 1 1 reject":          level,
		"level N 1 1 1 queue 1 1 1 1 1": level,
		"schema N a 1 none":             func(c api.Config) string { return c.Schemas[0].Name },
		"schema a N 1 none":             func(c api.Config) string { return c.Schemas[0].Level },
	} {
		with := func(word string) string { return strings.Replace(form, "N", word, 1) }
		for _, name := range []string{"a", "z", "a-", "a0", "catch-all", strings.Repeat("z", 32), "a" + strings.Repeat("-", 31)} {
			c, err := conf.Parse(with(name))
			if err != nil || read(c) != name {
				t.Errorf("%q with %q: %+v, %v", form, name, c, err)
			}
		}
		for _, word := range []string{"A", "aA", "0", "0a", "-", "-a", "*", "a_", "a.b", "a/b", "a,b", "é", "a\t", "\x00", "a\xff", "a#", "#", strings.Repeat("z", 33)} {
			refuses(t, with(word), 1, api.ErrName)
		}
	}
}

// P10.2: BY, and each of a rule's five lists.
func TestByAndLists(t *testing.T) {
	for _, by := range []string{"what", "None", "USER", "users", "spac", "spaces", "0", "1", "-", "*", "all", "none,user", "user\t", "none\x00"} {
		refuses(t, "schema s a 1 "+by, 1, api.ErrForm)
	}
	long := strings.Repeat("w", 64)
	for place := range 5 {
		with := func(word string) string {
			w := []string{"-", "-", "-", "-", "-"}
			w[place] = word
			return lines("schema s a 1 none", "rule "+strings.Join(w, " "))
		}
		for _, l := range []string{"*", "a", long, "a,b", "1,2,3,4,5,6,7,8", "a,A", "a,-a", "x@y/z:._-"} {
			c, err := conf.Parse(with(l))
			if err != nil {
				t.Errorf("%q: %v", with(l), err)
				continue
			}
			r := c.Schemas[0].Rules[0]
			for i, read := range [][]string{r.Users, r.Groups, r.Verbs, r.Resources, r.Spaces} {
				if i == place && strings.Join(read, ",") != l || i != place && len(read) != 0 {
					t.Errorf("%q: %+v", with(l), r)
				}
			}
		}
		for _, l := range []string{",", "a,", ",a", "a,,b", "a,a", "a,b,a", "a,*", "*,a", "*,*", "**", "a,-", "-,a", "--,--", "1,2,3,4,5,6,7,8,9", long + "w", "a," + long + "w", "é", "a\t", "\x00", "a*", "a#", "a=b"} {
			refuses(t, with(l), 2, api.ErrForm)
		}
	}
}

// P10.2: what was told already.
func TestTwice(t *testing.T) {
	refuses(t, lines("total 1", "total 1"), 2, api.ErrTwice)
	refuses(t, lines("total 4096", "", "period 1", "total 2"), 4, api.ErrTwice)
	refuses(t, lines("period 1", "period 1"), 2, api.ErrTwice)
	refuses(t, lines("period 1000", "total 1", "period 2"), 3, api.ErrTwice)
	refuses(t, lines("seats 1 1", "seats 1 1"), 2, api.ErrTwice)
	refuses(t, lines("seats 1 16", "seats 1048576 2"), 2, api.ErrTwice)
	first := []string{"level a exempt", "level a 0 0 0 reject", "level a 1 1 all queue 1 1 1 1 1"}
	for _, one := range first {
		for _, other := range first {
			refuses(t, lines(one, other), 2, api.ErrTwice)
			refuses(t, lines("level b exempt", one, "level c exempt", other), 4, api.ErrTwice)
		}
	}
	refuses(t, lines("schema s a 1 none", "schema s a 1 none"), 2, api.ErrTwice)
	refuses(t, lines("schema r a 1 none", "schema s a 1 none", "rule - - - - -", "schema q b 2 user", "schema s c 3 space"), 5, api.ErrTwice)
	if _, err := conf.Parse(lines("schema s a 1 none", "rule * * * * *", "rule * * * * *", "schema r a 1 none", "level s exempt")); err != nil {
		t.Error(err)
	}
}

// P10.2: how many levels, schemas, and rules of a schema there may be.
func TestTooMany(t *testing.T) {
	counts := func(levels, schemas, rules int) []string {
		l := append(many(levels, "level l%d exempt"), many(schemas, "schema s%d a 1 none")...)
		return append(l, many(rules, "rule u%d - - - -")...)
	}
	text := counts(16, 32, 8)
	c, err := conf.Parse(lines(text...))
	if err != nil || len(c.Levels) != 16 || len(c.Schemas) != 32 || len(c.Schemas[31].Rules) != 8 {
		t.Fatal(c, err)
	}
	for i, l := range c.Levels {
		if l != (api.Level{Name: "l" + strconv.Itoa(i), Kind: api.Exempt}) {
			t.Errorf("level %d: %+v", i, l)
		}
	}
	for i, s := range c.Schemas {
		if s.Name != "s"+strconv.Itoa(i) || i < 31 && len(s.Rules) > 0 {
			t.Errorf("schema %d: %+v", i, s)
		}
	}
	for i, r := range c.Schemas[31].Rules {
		if len(r.Users) != 1 || r.Users[0] != "u"+strconv.Itoa(i) {
			t.Errorf("rule %d: %+v", i, r)
		}
	}
	refuses(t, lines(append(text, "level x exempt")...), 57, api.ErrLong)
	refuses(t, lines(append(text, "level x 1 1 1 queue 1 1 1 1 1")...), 57, api.ErrLong)
	refuses(t, lines(append(text, "schema x a 1 none")...), 57, api.ErrLong)
	refuses(t, lines(append(text, "rule - - - - -")...), 57, api.ErrLong)
	refuses(t, lines(counts(17, 0, 0)...), 17, api.ErrLong)
	refuses(t, lines(counts(0, 33, 0)...), 33, api.ErrLong)
	refuses(t, lines(counts(0, 1, 9)...), 10, api.ErrLong)
	if _, err := conf.Parse(lines(append(counts(0, 1, 8), counts(16, 0, 0)...)...)); err != nil {
		t.Error(err)
	}

	var full []string
	for i := range 32 {
		full = append(full, many(1, "schema s"+strconv.Itoa(i)+" a 1 none")...)
		full = append(full, many(8, "rule - - - - -")...)
	}
	c, err = conf.Parse(lines(full...))
	if err != nil || len(c.Schemas) != 32 {
		t.Fatal(err)
	}
	for _, s := range c.Schemas {
		if len(s.Rules) != 8 {
			t.Errorf("%+v", s)
		}
	}
}

// P10.2: of several errors in a line the one that the chapter names first.
func TestFirstErrorOfLine(t *testing.T) {
	levels := lines(many(16, "level l%d exempt")...) + "\n"
	schemas := lines(many(32, "schema s%d a 1 none")...) + "\n"
	rules := schemas + lines(many(8, "rule - - - - -")...) + "\n"
	for _, c := range []struct {
		ahead, line string
		e           api.Errno
	}{
		// The form, ahead of the words, of what was told and of how many there are.
		{"", "total 0 1", api.ErrForm},
		{"total 1\n", "total 1 1", api.ErrForm},
		{"", "level A reject", api.ErrForm},
		{"", "level A x x x exempt", api.ErrForm},
		{"", "schema S A 0", api.ErrForm},
		{levels, "level l1", api.ErrForm},
		{levels, "level x", api.ErrForm},
		{schemas, "schema s1 a 1", api.ErrForm},
		{schemas, "schema x a 1 none none", api.ErrForm},
		{rules, "rule - - - -", api.ErrForm},
		// The words, from left to right.
		{"", "level A x 1 1 reject", api.ErrName},
		{"", "level a 1 101 x reject", api.ErrRange},
		{"", "level A 1 1 1 queue 1 1 1 1 0", api.ErrName},
		{"", "schema S a 0 what", api.ErrName},
		{"", "schema s A 0 what", api.ErrName},
		{"", "schema s a 0 what", api.ErrRange},
		{"", "schema s a 1 what", api.ErrForm},
		{"", "schema S a 1 what", api.ErrName},
		{"", "schema s A 1 what", api.ErrName},
		// The words, ahead of what was told already.
		{"total 1\n", "total 0", api.ErrRange},
		{"period 1\n", "period 1001", api.ErrRange},
		{"seats 1 1\n", "seats 0 1", api.ErrRange},
		{"seats 1 1\n", "seats 1 17", api.ErrRange},
		{levels, "level l1 10001 1 1 reject", api.ErrRange},
		{levels, "level l1 1 1 1 queue 1 1 1 1 1001", api.ErrRange},
		{schemas, "schema s1 A 1 none", api.ErrName},
		{schemas, "schema s1 a 1 what", api.ErrForm},
		// What was told already, ahead of how many there are.
		{levels, "level l15 exempt", api.ErrTwice},
		{levels, "level l0 1 1 1 reject", api.ErrTwice},
		{schemas, "schema s31 a 1 none", api.ErrTwice},
		{schemas, "schema s0 b 2 user", api.ErrTwice},
		// The words, ahead of how many there are.
		{levels, "level X exempt", api.ErrName},
		{levels, "level x 1 1 1001 reject", api.ErrRange},
		{schemas, "schema X a 1 none", api.ErrName},
		{schemas, "schema x a 10001 none", api.ErrRange},
		{schemas, "schema x a 1 what", api.ErrForm},
		{rules, "rule - - - - a,a", api.ErrForm},
	} {
		refuses(t, c.ahead+c.line, strings.Count(c.ahead, "\n")+1, c.e)
	}
}

// P10.1: of several lines that may not be the first one is told, whatever is wrong with it.
func TestFirstLine(t *testing.T) {
	wrong := map[string]api.Errno{
		"what": api.ErrForm, "level A exempt": api.ErrName, "total 0": api.ErrRange, "rule * * * * *": api.ErrForm,
		"schema s a 1 what": api.ErrForm, "period 0": api.ErrRange,
	}
	for one, e := range wrong {
		for other := range wrong {
			refuses(t, lines(one, other), 1, e)
			refuses(t, lines("seats 1 1", one, other), 2, e)
			refuses(t, lines("seats 1 1", one, "seats 1 1"), 2, e)
			refuses(t, lines("seats 1 1", "seats 1 1", one), 2, api.ErrTwice)
		}
	}
	refuses(t, lines("schema s a 1 what", "rule * * * * *"), 1, api.ErrForm)
	refuses(t, lines(append(many(17, "level l%d exempt"), "what")...), 17, api.ErrLong)
}

var saysNothing = []string{"", " ", "     ", "#", "# total 0", "#what", "   # level A", "##", "#\t", "#é\xff", "#" + strings.Repeat(" x", 100), " #"}

// P10.3: lines that say nothing, one by one.
func TestLinesThatSayNothing(t *testing.T) {
	for _, line := range saysNothing {
		reads(t, line, api.Config{})
		reads(t, lines(line, "total 3", line), api.Config{Total: 3})
		reads(t, lines("schema s a 1 none", line, "rule - - - - -"), api.Config{
			Schemas: []api.Schema{{Name: "s", Level: "a", Rank: 1, Rules: make([]api.Rule, 1)}},
		})
		refuses(t, lines(line, "what"), 2, api.ErrForm)
		refuses(t, lines(line, line, "total 1", line, "total 1"), 5, api.ErrTwice)
		refuses(t, lines("what", line), 1, api.ErrForm)
	}
	refuses(t, "total #1", 1, api.ErrRange)
	refuses(t, "total 1 #", 1, api.ErrForm)
	refuses(t, "total# 1", 1, api.ErrForm)
	refuses(t, "\t", 1, api.ErrForm)
	refuses(t, "\r\n", 1, api.ErrForm)
	refuses(t, "\t# so", 1, api.ErrForm)
	refuses(t, "\u00a0", 1, api.ErrForm)
	refuses(t, "total 1\r\n", 1, api.ErrRange)
}

// What follows reads a text in another way, by patterns, and gathers all errors of a line.

var (
	aNumber = regexp.MustCompile(`^(0|[1-9][0-9]{0,8})$`)
	aName   = regexp.MustCompile(`^[a-z][a-z0-9-]{0,31}$`)
	aWord   = regexp.MustCompile(`^[a-zA-Z0-9._:/@-]{1,64}$`)
)

// A field is a NAME (n), a number (r) between bounds, BORROW (b), BY (y), a list (l) or a word as it is.
type field struct {
	kind        byte
	least, most int
	as          string
}

func numberTo(least, most int) field { return field{kind: 'r', least: least, most: most} }

func modelForm(w []string) ([]field, bool) {
	name, list := field{kind: 'n'}, field{kind: 'l'}
	level := []field{name, numberTo(0, 10000), numberTo(0, 100), {kind: 'b', most: 1000}}
	var f []field
	switch w[0] + " " + strconv.Itoa(len(w)) {
	case "total 2":
		f = []field{numberTo(1, 4096)}
	case "period 2":
		f = []field{numberTo(1, 1000)}
	case "seats 3":
		f = []field{numberTo(1, 1048576), numberTo(1, 16)}
	case "level 3":
		f = []field{name, {as: "exempt"}}
	case "level 6":
		f = append(level, field{as: "reject"})
	case "level 11":
		f = append(level, field{as: "queue"}, numberTo(1, 64), numberTo(1, 8), numberTo(1, 64), numberTo(1, 1000), numberTo(1, 1000))
	case "schema 5":
		f = []field{name, name, numberTo(1, 10000), {kind: 'y'}}
	case "rule 6":
		f = []field{list, list, list, list, list}
	default:
		return nil, false
	}
	for i, one := range f {
		if one.as != "" && one.as != w[i+1] {
			return nil, false
		}
	}
	return f, true
}

func modelList(w string) ([]string, bool) {
	if w == "-" || w == "*" {
		return map[string][]string{"*": {"*"}}[w], true
	}
	l := strings.Split(w, ",")
	seen := map[string]int{}
	for _, one := range l {
		seen[one]++
		if !aWord.MatchString(one) || one == "-" || seen[one] > 1 {
			return nil, false
		}
	}
	return l, len(l) <= 8
}

// modelWord is what a word tells as a number, and which error it is.
func modelWord(f field, w string) (int, api.Errno) {
	_, isList := modelList(w)
	n, _ := strconv.Atoi(w)
	by := slices.Index([]string{"none", "user", "space"}, w)
	switch {
	case f.kind == 'n' && !aName.MatchString(w):
		return 0, api.ErrName
	case f.kind == 'l' && !isList:
		return 0, api.ErrForm
	case f.kind == 'y' && by < 0:
		return 0, api.ErrForm
	case f.kind == 'y':
		return by, api.OK
	case f.kind == 'b' && w == "all":
		return -1, api.OK
	case (f.kind == 'b' || f.kind == 'r') && (!aNumber.MatchString(w) || n < f.least || n > f.most):
		return 0, api.ErrRange
	}
	return n, api.OK
}

func modelLine(c *api.Config, w []string) api.Errno {
	f, ok := modelForm(w)
	if !ok || w[0] == "rule" && len(c.Schemas) == 0 {
		return api.ErrForm
	}
	n := make([]int, len(w), 20)
	var errs []api.Errno
	for i, one := range f {
		var e api.Errno
		n[i+1], e = modelWord(one, w[i+1])
		errs = append(errs, e)
	}
	if i := slices.IndexFunc(errs, func(e api.Errno) bool { return e != api.OK }); i >= 0 {
		return errs[i]
	}
	names := map[string]int{}
	for _, l := range c.Levels {
		names["level "+l.Name]++
	}
	for _, s := range c.Schemas {
		names["schema "+s.Name]++
	}
	if w[0] == "total" && c.Total > 0 || w[0] == "period" && c.Period > 0 || w[0] == "seats" && c.Most > 0 || names[w[0]+" "+w[1]] > 0 {
		return api.ErrTwice
	}
	last := len(c.Schemas) - 1
	if w[0] == "level" && len(c.Levels) == 16 || w[0] == "schema" && last == 31 || w[0] == "rule" && len(c.Schemas[last].Rules) == 8 {
		return api.ErrLong
	}
	n = n[:12]
	switch w[0] {
	case "total":
		c.Total = n[1]
	case "period":
		c.Period = n[1]
	case "seats":
		c.PerSeat, c.Most = n[1], n[2]
	case "level":
		kind := map[int]int{3: api.Exempt, 6: api.Reject, 11: api.Queue}[len(w)]
		if kind == api.Exempt {
			n = make([]int, 12)
		}
		c.Levels = append(c.Levels, api.Level{Name: w[1], Kind: kind, Shares: n[2], Lend: n[3], Borrow: n[4],
			Queues: n[6], Hand: n[7], Length: n[8], Wait: n[9], Guess: n[10]})
	case "schema":
		c.Schemas = append(c.Schemas, api.Schema{Name: w[1], Level: w[2], Rank: n[3], By: n[4]})
	case "rule":
		var l [6][]string
		for i := 1; i < 6; i++ {
			l[i], _ = modelList(w[i])
		}
		c.Schemas[last].Rules = append(c.Schemas[last].Rules, api.Rule{Users: l[1], Groups: l[2], Verbs: l[3], Resources: l[4], Spaces: l[5]})
	}
	return api.OK
}

var blanks = regexp.MustCompile(` +`)

func model(text string) (api.Config, int, api.Errno) {
	var c api.Config
	for i, line := range strings.Split(text, "\n") {
		line = strings.Trim(blanks.ReplaceAllString(line, " "), " ")
		if line == "" || line[0] == '#' {
			continue
		}
		if e := modelLine(&c, strings.Split(line, " ")); e != api.OK {
			return api.Config{}, i + 1, e
		}
	}
	return c, 0, api.OK
}

func agrees(t *testing.T, text string) api.Errno {
	t.Helper()
	want, line, e := model(text)
	c, err := conf.Parse(text)
	if e == api.OK && err != nil || e != api.OK && err != fault.At(line, e) || !same(c, want) {
		t.Fatalf("%q: %+v, %v; want %+v, line %d, error %d", text, c, err, want, line, e)
	}
	return e
}

// Words from which mixed lines are made: those that are right are drawn most of the time.
func mixedWord(r *random, kind byte) string {
	if r.below(60) == 0 {
		kind = "nrbylx"[r.below(6)]
	}
	switch kind {
	case 'n':
		return r.one([]string{"a", "b", "c", "d", "e", "a-b", "z9", "all", "exempt", "x", "y", strings.Repeat("n", 32)})
	case 'r':
		return strconv.Itoa(1 + r.below(8))
	case 'b':
		return r.one([]string{"all", "0", "1000", "17"})
	case 'y':
		return r.one([]string{"none", "user", "space"})
	case 'l':
		return r.one([]string{"*", "-", "a", "a,b", "get,list,watch", "1,2,3,4,5,6,7,8", "A/b:c@d._-", "system:masters"})
	}
	return r.one([]string{"A", "0", "1001", "4097", "65", "9", "17", "101", "1048577", "10001", "01", "a,a", "a,", ",", "what", "#", "é", "\t", "exempt", "queue", "reject", "1,2,3,4,5,6,7,8,9", strings.Repeat("n", 33), strings.Repeat("w", 65)})
}

func mixedLine(r *random) string {
	forms := []string{"n exempt", "nrrb reject", "nrrb queue rrrrr", "nnry", "lllll", "lllll", "lllll", "r", "r", "rr", ""}
	firsts := []string{"level", "level", "level", "schema", "rule", "rule", "rule", "total", "period", "seats", ""}
	which := r.below(len(forms))
	if r.below(20) == 0 {
		return r.one(saysNothing)
	}
	w := []string{firsts[which]}
	for _, part := range strings.Split(forms[which], " ") {
		if len(part) >= 5 && strings.Contains("exempt reject queue", part) {
			w = append(w, part)
			continue
		}
		for i := range len(part) {
			w = append(w, mixedWord(r, part[i]))
		}
	}
	switch r.below(80) {
	case 0:
		w = w[:len(w)-1]
	case 1:
		w = append(w, mixedWord(r, 'r'))
	case 2:
		w[r.below(len(w))] = mixedWord(r, 'x')
	case 3:
		w[0] = r.one(firsts)
	}
	line := ""
	for _, one := range w {
		line += strings.Repeat(" ", 1+r.below(2)*r.below(3)) + one
	}
	if r.below(2) == 0 {
		line = strings.TrimPrefix(line, " ")
	}
	return line + strings.Repeat(" ", r.below(2))
}

// P10.1, P10.2: mixed texts, held against the other way to read them.
func TestMixedTexts(t *testing.T) {
	r := seed
	seen := map[api.Errno]int{}
	for range 60000 {
		var l []string
		for range r.below(14) {
			l = append(l, mixedLine(&r))
		}
		seen[agrees(t, lines(l...))]++
	}
	for _, e := range []api.Errno{api.OK, api.ErrForm, api.ErrName, api.ErrRange, api.ErrTwice} {
		if seen[e] < 500 {
			t.Errorf("only %d texts with %d", seen[e], e)
		}
	}
}

// P10.1, P10.2: long mixed texts of right lines, in which it comes to what is told twice, and to too many.
func TestMixedLongTexts(t *testing.T) {
	r := seed
	seen := map[api.Errno]int{}
	for range 3000 {
		l := []string{"schema first a 1 none"}
		for i := range 80 {
			name := fmt.Sprintf("n%d", i)
			if r.below(200) == 0 {
				name = fmt.Sprintf("n%d", r.below(80))
			}
			l = append(l, r.one([]string{"level " + name + " exempt", "level " + name + " 1 2 all reject",
				"schema " + name + " n1 5 user", "schema " + name + " n1 5 user", "rule a,b * - c d", "rule - - - - -", "rule * * * * *", "# so"}))
		}
		seen[agrees(t, lines(l...))]++
	}
	for _, e := range []api.Errno{api.ErrTwice, api.ErrLong} {
		if seen[e] < 50 {
			t.Errorf("only %d texts with %d", seen[e], e)
		}
	}
}

// P10.1, P10.2: any bytes, and right texts with some bytes that are others, end without a panic and as they should.
func TestAnyBytes(t *testing.T) {
	r := seed
	signs := []string{" ", " ", " ", "\n", "#", "-", "*", ",", "0", "1", "9", "a", "A", "\t", "\x00", "\xff", "é", "total", "level", "rule", "schema", "exempt"}
	for range 60000 {
		text := ""
		for range r.below(12) {
			text += r.one(signs)
		}
		agrees(t, text)
	}
	whole := lines(append(slices.Clone(wellFormed[:4]), "level b 1 1 1 reject", "level c 1 1 1 queue 1 1 1 1 1", "schema s a 1 none", "rule a,b * - c d", "# end", "")...)
	for range 60000 {
		text := []byte(whole)
		for range 1 + r.below(3) {
			switch at := r.below(len(text)); r.below(3) {
			case 0:
				text[at] = byte(r.next())
			case 1:
				text = slices.Delete(text, at, at+1)
			default:
				text = slices.Insert(text, at, r.one(signs)[0])
			}
		}
		agrees(t, string(text))
	}
}

// P10.1: of a text that ends in the midst of a line, too.
func TestBeginnings(t *testing.T) {
	whole := lines(append(slices.Clone(wellFormed[:4]), "level b 1 1 all queue 1 1 1 1 1", "schema s a 1 none", "", "rule a,b * - c d", "# end", "total 1", "")...)
	for end := range len(whole) + 1 {
		agrees(t, whole[:end])
	}
}

// P10.3: with lines that say nothing between the others, and more blanks between words, all is the same but the
// line's number.
func TestNothingChanges(t *testing.T) {
	r := seed
	for range 20000 {
		var l, more []string
		for range r.below(10) {
			l = append(l, mixedLine(&r))
		}
		number := []int{0} // of each line, where it stands then
		for _, line := range l {
			for range r.below(3) {
				more = append(more, r.one(saysNothing))
			}
			more = append(more, strings.Repeat(" ", r.below(3))+strings.ReplaceAll(line, " ", strings.Repeat(" ", 1+r.below(3)))+strings.Repeat(" ", r.below(3)))
			number = append(number, len(more))
		}
		more = append(more, r.one(saysNothing))
		c, err := conf.Parse(lines(l...))
		other, otherErr := conf.Parse(lines(more...))
		if !same(c, other) || fault.Code(err) != fault.Code(otherErr) || fault.Line(otherErr) != number[fault.Line(err)] {
			t.Fatalf("%q: %+v, %v\n%q: %+v, %v", l, c, err, more, other, otherErr)
		}
	}
}

// spoil writes into all of a configuration's lists, and into their spare room.
func spoil(c api.Config) {
	for i := range c.Schemas {
		for j := range c.Schemas[i].Rules {
			r := &c.Schemas[i].Rules[j]
			for _, l := range [][]string{r.Users, r.Groups, r.Verbs, r.Resources, r.Spaces} {
				spoilList(l, "spoilt")
			}
		}
		spoilList(c.Schemas[i].Rules, api.Rule{Users: []string{"spoilt"}})
	}
	spoilList(c.Levels, api.Level{Name: "spoilt"})
	spoilList(c.Schemas, api.Schema{Name: "spoilt"})
}

func spoilList[T any](l []T, with T) {
	l = l[:cap(l)]
	for i := range l {
		l[i] = with
	}
}

// Rule 3: answers are memory of their own, and no two lists of one answer share any.
func TestAnswersApart(t *testing.T) {
	text := lines("level a exempt", "level b exempt", "level c exempt", "schema r a 1 none", "rule * * * * *",
		"rule a,b,c a,b,c a,b,c a,b,c a,b,c", "rule a a - a a", "schema s a 1 none", "rule * * * * *",
		"rule a,b,c a,b,c a,b,c a,b,c a,b,c", "schema q a 1 none", "rule * * * * *")
	want, _, _ := model(text)
	one, err := conf.Parse(text)
	other, otherErr := conf.Parse(text)
	if err != nil || otherErr != nil {
		t.Fatal(err, otherErr)
	}
	spoil(one)
	if !same(other, want) {
		t.Errorf("%+v", other)
	}
	reads(t, text, want)

	c, _ := conf.Parse(text)
	for i := range c.Schemas {
		for j := range c.Schemas[i].Rules {
			for k := range 5 {
				c, _ := conf.Parse(text)
				lists := func(r api.Rule) [][]string {
					return [][]string{r.Users, r.Groups, r.Verbs, r.Resources, r.Spaces}
				}
				l := lists(c.Schemas[i].Rules[j])[k]
				kept := slices.Clone(l)
				spoilList(l, "spoilt")
				copy(l, kept)
				if !same(c, want) {
					t.Errorf("schema %d, rule %d, list %d: %+v", i, j, k, c)
				}
			}
		}
		c, _ := conf.Parse(text)
		kept := slices.Clone(c.Schemas[i].Rules)
		spoilList(c.Schemas[i].Rules, api.Rule{})
		copy(c.Schemas[i].Rules, kept)
		if !same(c, want) {
			t.Errorf("the rules of schema %d: %+v", i, c)
		}
	}
}

// Rule 4: an answer hangs on the text alone, not on those that were read ahead of it.
func TestCallsApart(t *testing.T) {
	text := lines("total 3", "level a exempt", "schema s a 1 none", "rule * - - - -")
	want, _, _ := model(text)
	for _, ahead := range []string{text, "total 0", "rule * * * * *", lines("total 1", "schema s a 1 none", "what"), strings.Repeat("x", 65537)} {
		conf.Parse(ahead)
		reads(t, text, want)
	}
}
