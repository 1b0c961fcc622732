package table_test

import (
	"fmt"
	stdfnv "hash/fnv"
	"math"
	"reflect"
	"slices"
	"strings"
	"testing"

	"usher/api"
	"usher/conf"
	"usher/fault"
	"usher/fill"
	"usher/print"
	"usher/rules"
	"usher/table"
)

// random are numbers, the same ones each time.
type random uint64

func (r *random) next() uint64 {
	x := uint64(*r)
	x ^= x << 13
	x ^= x >> 7
	x ^= x << 17
	*r = random(x)
	return x
}

func (r *random) below(n int) int { return int((r.next() >> 11) % uint64(n)) }

// one in n times.
func (r *random) one(n int) bool { return r.below(n) == 0 }

func pick[T any](r *random, of ...T) T { return of[r.below(len(of))] }

func shuffled[T any](r *random, l []T) []T {
	l = slices.Clone(l)
	for i := range l {
		j := r.below(i + 1)
		l[i], l[j] = l[j], l[i]
	}
	return l
}

const seed = random(88172645463325252)

// copyOf a configuration shares nothing with it, and has nil in place of each empty list.
func copyOf(c api.Config) api.Config {
	c.Levels = append([]api.Level(nil), c.Levels...)
	c.Schemas = append([]api.Schema(nil), c.Schemas...)
	for i := range c.Schemas {
		c.Schemas[i].Rules = append([]api.Rule(nil), c.Schemas[i].Rules...)
		for j := range c.Schemas[i].Rules {
			for _, l := range listsOf(&c.Schemas[i].Rules[j]) {
				*l = append([]string(nil), *l...)
			}
		}
	}
	return c
}

func listsOf(r *api.Rule) []*[]string {
	return []*[]string{&r.Users, &r.Groups, &r.Verbs, &r.Resources, &r.Spaces}
}

// same: nil and empty lists are.
func same(a, b api.Config) bool { return reflect.DeepEqual(copyOf(a), copyOf(b)) }

func sameTable(a, b api.Table) bool { return a.Digest == b.Digest && same(a.Config, b.Config) }

// What follows is the chapter once more, by other means: an order byte by byte, each one put behind all that go ahead
// of it, and the hash of the library.

func bytesAhead(a, b string) bool {
	for i := 0; i < len(a) && i < len(b); i++ {
		if a[i] != b[i] {
			return a[i] < b[i]
		}
	}
	return len(a) < len(b)
}

func levelAhead(a, b api.Level) bool { return bytesAhead(a.Name, b.Name) }

func schemaAhead(a, b api.Schema) bool {
	if a.Rank != b.Rank {
		return a.Rank < b.Rank
	}
	return bytesAhead(a.Name, b.Name)
}

func inOrder[T any](l []T, ahead func(a, b T) bool) []T {
	ordered := make([]T, len(l))
	for _, one := range l {
		place := 0
		for _, other := range l {
			if ahead(other, one) {
				place++
			}
		}
		ordered[place] = one
	}
	return ordered
}

func hashOf(text string) uint64 {
	h := stdfnv.New64a()
	h.Write([]byte(text))
	return h.Sum64()
}

// wanted is what Make has to answer.
func wanted(c api.Config) (api.Table, error) {
	c = fill.Fill(c)
	if err := rules.Check(c); err != nil {
		return api.Table{}, err
	}
	c.Levels, c.Schemas = inOrder(c.Levels, levelAhead), inOrder(c.Schemas, schemaAhead)
	text, e := print.Print(c)
	if e == api.ErrLong {
		return api.Table{}, fault.Fault{Err: api.ErrLong}
	}
	return api.Table{Config: c, Digest: hashOf(text)}, nil
}

// brief is what is told of a configuration or a table that is wrong: it may be longer than anybody reads.
func brief(of any) string {
	text := fmt.Sprintf("%+v", of)
	return text[:min(len(text), 600)]
}

// makes: the table is this one; P14.3: it is made of its Config again, and of the same turned round.
func makes(t *testing.T, c api.Config, want api.Table) {
	t.Helper()
	got, err := table.Make(c)
	if err != nil || !sameTable(got, want) {
		t.Errorf("%s: %s, error %v; want %s", brief(c), brief(got), err, brief(want))
		return
	}
	if again, err := table.Make(got.Config); err != nil || !sameTable(again, want) {
		t.Errorf("%s: again: %s, error %v; want %s", brief(c), brief(again), err, brief(want))
	}
	round := copyOf(c)
	slices.Reverse(round.Levels)
	slices.Reverse(round.Schemas)
	if turned, err := table.Make(round); err != nil || !sameTable(turned, want) {
		t.Errorf("%s: turned round: %s, error %v; want %s", brief(c), brief(turned), err, brief(want))
	}
}

// refuses: the answer is this error, just one fault around a number, and nothing beside it.
func refuses(t *testing.T, c api.Config, what string, e api.Errno) {
	t.Helper()
	got, err := table.Make(c)
	if err != error(fault.Fault{What: what, Err: e}) {
		t.Errorf("%s: %#v; want %d of %q", brief(c), err, e, what)
		return
	}
	if fault.Code(err) != e || fault.What(err) != what || fault.Line(err) != 0 {
		t.Errorf("%s: %d of %q, line %d; want %d of %q", brief(c), fault.Code(err), fault.What(err), fault.Line(err), e, what)
	}
	if !sameTable(got, api.Table{}) {
		t.Errorf("%s: %s beside an error", brief(c), brief(got))
	}
}

// check holds an answer against the chapter, and answers the error that it has to be.
func check(t *testing.T, c api.Config) error {
	t.Helper()
	want, err := wanted(c)
	if err != nil {
		refuses(t, c, fault.What(err), fault.Code(err))
		return err
	}
	makes(t, c, want)
	return nil
}

func read(t *testing.T, text string) api.Config {
	t.Helper()
	c, err := conf.Parse(text)
	if err != nil {
		t.Fatalf("%q: %v", text, err)
	}
	return c
}

// tells: the table is the one that this text tells, line by line, and its Digest is the hash of that text.
func tells(t *testing.T, c api.Config, text string) {
	t.Helper()
	makes(t, c, api.Table{Config: read(t, text), Digest: hashOf(text)})
}

var star = []string{"*"}

func ruleOfAll() api.Rule {
	return api.Rule{Users: star, Verbs: star, Resources: star, Spaces: star}
}

func queue(name string, queues, hand int) api.Level {
	return api.Level{Name: name, Kind: api.Queue, Shares: 3, Queues: queues, Hand: hand, Length: 1, Wait: 1, Guess: 1}
}

func reject(name string, shares int) api.Level {
	return api.Level{Name: name, Kind: api.Reject, Shares: shares}
}

func exempt(name string) api.Level { return api.Level{Name: name, Kind: api.Exempt} }

func schema(name string, rank int) api.Schema {
	return api.Schema{Name: name, Level: "exempt", Rank: rank}
}

func ofLevels(l ...api.Level) api.Config { return api.Config{Levels: l} }

func ofSchemas(l ...api.Schema) api.Config { return api.Config{Schemas: l} }

const (
	usualNumbers = "total 100\nperiod 10\nseats 100 10\n"
	usualLevels  = "level catch-all 5 0 all reject\nlevel exempt exempt\n"
	exemptText   = "schema exempt exempt 1 none\nrule - system:masters * * *\n"
	catchAllText = "schema catch-all catch-all 10000 user\nrule * - * * *\n"
	usual        = usualNumbers + usualLevels + exemptText + catchAllText
)

// P14.1, P14.2: the chapter's example, all of it, and its hash.
func TestNothing(t *testing.T) {
	for _, c := range []api.Config{{}, {Levels: []api.Level{}, Schemas: []api.Schema{}}} {
		tells(t, c, usual)
		got, err := table.Make(c)
		if err != nil || got.Digest != 0x76410c2b94414817 {
			t.Errorf("%x, error %v", got.Digest, err)
		}
		l := got.Config.Levels
		if len(l) != 2 || l[0].Name != "catch-all" || l[1].Name != "exempt" {
			t.Errorf("%+v", l)
		}
		s := got.Config.Schemas
		if len(s) != 2 || s[0].Name != "exempt" || s[1].Name != "catch-all" {
			t.Errorf("%+v", s)
		}
	}
	tells(t, read(t, usual), usual)
}

// P14.1: what texts tell, filled and in order.
func TestOfTexts(t *testing.T) {
	for _, c := range []struct{ told, want string }{
		{
			"schema s a 7 user\nrule * - get,list * -\nlevel a 5 0 all reject\ntotal 10",
			"total 10\nperiod 10\nseats 100 10\nlevel a 5 0 all reject\n" + usualLevels + exemptText +
				"schema s a 7 user\nrule * - get,list * -\n" + catchAllText,
		},
		{
			"seats 3 4\nlevel z 1 2 3 queue 8 4 5 6 7\nlevel exempt exempt\nlevel b exempt\nlevel catch-all 1 0 0 queue 1 1 1 1 1\nperiod 5",
			"total 100\nperiod 5\nseats 3 4\nlevel b exempt\nlevel catch-all 1 0 0 queue 1 1 1 1 1\nlevel exempt exempt\n" +
				"level z 1 2 3 queue 8 4 5 6 7\n" + exemptText + catchAllText,
		},
		{
			"schema t exempt 10000 space\nschema catch-all catch-all 10000 none\nrule u - - - -\nrule * g * * *\n" +
				"schema exempt exempt 1 space\nschema a catch-all 10000 user\nrule b,a - - - -\nrule a,b - - - -",
			usualNumbers + usualLevels + "schema exempt exempt 1 space\nschema a catch-all 10000 user\nrule b,a - - - -\nrule a,b - - - -\n" +
				"schema catch-all catch-all 10000 none\nrule u - - - -\nrule * g * * *\nschema t exempt 10000 space\n",
		},
		{
			"schema zero exempt 1 none\nschema first exempt 1 none\nschema early exempt 1 none\nschema second exempt 2 none",
			usualNumbers + usualLevels + "schema early exempt 1 none\n" + exemptText +
				"schema first exempt 1 none\nschema zero exempt 1 none\nschema second exempt 2 none\n" + catchAllText,
		},
	} {
		tells(t, read(t, c.told), c.want)
	}
}

// P14.1: each error of the rules, and what it is of.
func TestErrorsOfRules(t *testing.T) {
	catchAll := func(level string, rank int, r ...api.Rule) api.Schema {
		return api.Schema{Name: "catch-all", Level: level, Rank: rank, Rules: r}
	}
	for _, c := range []struct {
		of   api.Config
		what string
		e    api.Errno
	}{
		{api.Config{Total: -1}, "", api.ErrForm},
		{api.Config{Total: 4097}, "", api.ErrForm},
		{api.Config{Period: -1}, "", api.ErrForm},
		{api.Config{Period: 1001}, "", api.ErrForm},
		{api.Config{PerSeat: math.MaxInt}, "", api.ErrForm},
		{api.Config{Most: 17}, "", api.ErrForm},
		{ofLevels(api.Level{}), "", api.ErrForm},
		{ofLevels(exempt("no name")), "", api.ErrForm},
		{ofLevels(exempt("a"), exempt("a")), "", api.ErrForm},
		{ofLevels(exempt("exempt"), exempt("exempt")), "", api.ErrForm},
		{ofLevels(queue("a", 65, 1)), "", api.ErrForm},
		{ofSchemas(api.Schema{}), "", api.ErrForm},
		{ofSchemas(schema("s", 0)), "", api.ErrForm},
		{ofSchemas(schema("s", 5), schema("s", 6)), "", api.ErrForm},
		{ofSchemas(api.Schema{Name: "s", Level: "exempt", Rank: 1, Rules: make([]api.Rule, 9)}), "", api.ErrForm},
		{ofLevels(queue("a", 2, 3)), "level a", api.ErrRange},
		{ofLevels(queue("a", 64, 8)), "level a", api.ErrHand},
		{ofLevels(reject("exempt", 5)), "level exempt", api.ErrFixed},
		{ofLevels(queue("exempt", 1, 1)), "level exempt", api.ErrFixed},
		{ofLevels(exempt("catch-all")), "level catch-all", api.ErrFixed},
		{ofLevels(reject("catch-all", 0)), "level catch-all", api.ErrFixed},
		{ofLevels(queue("catch-all", 64, 7)), "level catch-all", api.ErrHand},
		{ofSchemas(api.Schema{Name: "s", Level: "a", Rank: 7}), "schema s", api.ErrNone},
		{ofSchemas(api.Schema{Name: "exempt", Level: "a", Rank: 1}), "schema exempt", api.ErrNone},
		{ofSchemas(api.Schema{Name: "exempt", Level: "catch-all", Rank: 1}), "schema exempt", api.ErrFixed},
		{ofSchemas(schema("exempt", 2)), "schema exempt", api.ErrFixed},
		{ofSchemas(catchAll("a", 10000, ruleOfAll())), "schema catch-all", api.ErrNone},
		{ofSchemas(catchAll("exempt", 10000, ruleOfAll())), "schema catch-all", api.ErrFixed},
		{ofSchemas(catchAll("catch-all", 9999, ruleOfAll())), "schema catch-all", api.ErrFixed},
		{ofSchemas(catchAll("catch-all", 10000, api.Rule{Users: star})), "schema catch-all", api.ErrFixed},
		{ofSchemas(catchAll("catch-all", 10000)), "schema catch-all", api.ErrFixed},
	} {
		refuses(t, c.of, c.what, c.e)
		check(t, c.of)
	}
}

// P14.1: the rules look at what is told before it is put in order: the first that is told is the first that is wrong.
func TestFirstThatIsTold(t *testing.T) {
	refuses(t, ofLevels(queue("z", 2, 3), queue("a", 64, 8)), "level z", api.ErrRange)
	refuses(t, ofLevels(queue("a", 64, 8), queue("z", 2, 3)), "level a", api.ErrHand)
	refuses(t, ofLevels(queue("z", 2, 3), reject("exempt", 1)), "level z", api.ErrRange)
	last := api.Schema{Name: "z", Level: "none", Rank: 10000}
	first := api.Schema{Name: "a", Level: "none", Rank: 1}
	refuses(t, ofSchemas(last, first), "schema z", api.ErrNone)
	refuses(t, ofSchemas(first, last), "schema a", api.ErrNone)
	refuses(t, ofSchemas(last, schema("exempt", 2)), "schema z", api.ErrNone)
	refuses(t, ofSchemas(schema("exempt", 2), last), "schema exempt", api.ErrFixed)
	c := ofSchemas(first)
	c.Levels = []api.Level{queue("z", 2, 3)}
	refuses(t, c, "level z", api.ErrRange)
	c.Total = -1
	refuses(t, c, "", api.ErrForm)
}

// P14.1: what the rules would miss is filled ahead of them.
func TestFilledAhead(t *testing.T) {
	tells(t, api.Config{Total: 7}, strings.Replace(usual, "total 100", "total 7", 1))
	tells(t, api.Config{Period: 7}, strings.Replace(usual, "period 10", "period 7", 1))
	tells(t, api.Config{PerSeat: 7}, strings.Replace(usual, "seats 100 10", "seats 7 10", 1))
	tells(t, api.Config{Most: 7}, strings.Replace(usual, "seats 100 10", "seats 100 7", 1))
	tells(t, ofLevels(exempt("exempt")), usual)
	tells(t, ofLevels(reject("catch-all", 7)), strings.Replace(usual, "5 0 all", "7 0 0", 1))
	tells(t, ofSchemas(schema("exempt", 1)), strings.Replace(usual, exemptText, "schema exempt exempt 1 none\n", 1))
	tells(t, ofSchemas(api.Schema{Name: "s", Level: "catch-all", Rank: 3}),
		strings.Replace(usual, exemptText, exemptText+"schema s catch-all 3 none\n", 1))
	tells(t, api.Config{Total: 4096, Period: 1000, PerSeat: 1 << 20, Most: 16},
		strings.Replace(usual, usualNumbers, "total 4096\nperiod 1000\nseats 1048576 16\n", 1))
	tells(t, api.Config{Total: 1, Period: 1, PerSeat: 1, Most: 1}, strings.Replace(usual, usualNumbers, "total 1\nperiod 1\nseats 1 1\n", 1))
}

func numbered(word string, count int) []string {
	var names []string
	for i := range count {
		names = append(names, fmt.Sprint(word, i))
	}
	return names
}

// P14.1: as many levels and schemas as there may be, those that are filled in among them; and one more of each.
func TestMany(t *testing.T) {
	var levels []api.Level
	for _, name := range numbered("l", 17) {
		levels = append(levels, queue(name, 8, 8))
	}
	var schemas []api.Schema
	for i, name := range numbered("s", 33) {
		schemas = append(schemas, api.Schema{Name: name, Level: "l0", Rank: 1 + i%3, Rules: make([]api.Rule, 8)})
	}
	for _, ends := range []struct {
		levels, schemas int
		e               api.Errno
	}{{14, 30, api.OK}, {15, 30, api.ErrForm}, {14, 31, api.ErrForm}, {16, 32, api.ErrForm}, {17, 1, api.ErrForm}, {1, 33, api.ErrForm}} {
		c := api.Config{Levels: levels[:ends.levels], Schemas: schemas[:ends.schemas]}
		if err := check(t, c); fault.Code(err) != ends.e {
			t.Errorf("%d levels, %d schemas: %v", ends.levels, ends.schemas, err)
		}
	}
	c := api.Config{Levels: slices.Clone(levels[:16]), Schemas: slices.Clone(schemas[:32])}
	c.Levels[3], c.Levels[14] = reject("catch-all", 1), exempt("exempt")
	c.Schemas[8], c.Schemas[31] = api.Schema{Name: "catch-all", Level: "catch-all", Rank: 10000, Rules: []api.Rule{ruleOfAll()}}, schema("exempt", 1)
	if err := check(t, c); err != nil {
		t.Error(err)
	}
}

// longList has eight unlike words, each as long as one may be.
func longList() []string {
	var l []string
	for i := range 8 {
		l = append(l, strings.Repeat("w", 63)+fmt.Sprint(i))
	}
	return l
}

func lengthOf(c api.Config) int {
	length := 0
	c = copyOf(c)
	schemas := c.Schemas
	// Schema by schema, since all together may be too long to be printed.
	for i := range schemas {
		for j := range schemas[i].Rules {
			for _, l := range listsOf(&schemas[i].Rules[j]) {
				if joined := strings.Join(*l, ","); joined != "" {
					length += len(joined) - len("-")
					*l = nil
				}
			}
		}
	}
	text, e := print.Print(c)
	if e != api.OK {
		panic("a configuration without words is too long")
	}
	return length + len(text)
}

// ofLength is a configuration whose text, filled, has so many bytes: lists of long words are put in until that is too
// long, and then words of the first two rules are made shorter.
func ofLength(t *testing.T, bytes int) api.Config {
	t.Helper()
	var c api.Config
	for i, name := range numbered("s", 30) {
		c.Schemas = append(c.Schemas, api.Schema{Name: name, Level: "catch-all", Rank: 30 - i})
	}
	for i := 0; lengthOf(fill.Fill(c)) < bytes; i++ {
		r := &c.Schemas[i%30].Rules
		*r = append(*r, api.Rule{Users: longList(), Groups: longList(), Verbs: longList(), Resources: longList(), Spaces: longList()})
	}
	over := lengthOf(fill.Fill(c)) - bytes
	for i := range 2 {
		for _, l := range listsOf(&c.Schemas[i].Rules[0]) {
			for k := range *l {
				less := min(over, 63)
				(*l)[k] = (*l)[k][less:]
				over -= less
			}
		}
	}
	if got := lengthOf(fill.Fill(c)); got != bytes {
		t.Fatalf("%d bytes, not %d", got, bytes)
	}
	return c
}

// P14.1: a text that is as long as one may be, and one that is a byte longer.
func TestLong(t *testing.T) {
	for _, bytes := range []int{60000, 65535, 65536, 65537, 65538, 70000, 131072, 400000} {
		c := ofLength(t, bytes)
		err := check(t, c)
		if bytes <= 65536 && err != nil || bytes > 65536 && err != error(fault.Fault{Err: api.ErrLong}) {
			t.Errorf("%d bytes: %v", bytes, err)
		}
		if bytes > 65536 {
			refuses(t, c, "", api.ErrLong)
			// What the rules refuse goes ahead.
			c.Schemas[29].Level = "none"
			refuses(t, c, "schema s29", api.ErrNone)
			c.Levels = []api.Level{queue("a", 2, 3)}
			refuses(t, c, "level a", api.ErrRange)
			c.Schemas[29].By = 3
			refuses(t, c, "", api.ErrForm)
		}
	}
}

// P14.1: what counts is the filled text: one that may be printed as it was told may be too long with what is filled in.
func TestLongByWhatIsFilled(t *testing.T) {
	filled := ofLength(t, 65537)
	if text, e := print.Print(filled); e != api.OK || len(text) >= 65536 {
		t.Fatalf("%d bytes, error %d", len(text), e)
	}
	refuses(t, filled, "", api.ErrLong)
	// Each number, level and schema that is told in fewer bytes than what is filled in makes room again.
	shorter := []api.Config{
		{Total: 99}, {Period: 9}, {PerSeat: 99}, {Most: 9}, ofLevels(reject("catch-all", 5)), ofSchemas(schema("exempt", 1)),
	}
	for _, told := range shorter {
		c := told
		c.Schemas = append(copyOf(filled).Schemas, told.Schemas...)
		if err := check(t, c); err != nil {
			t.Errorf("%+v: %v", told, err)
		}
	}
	for _, told := range []api.Config{{Total: 100}, {Period: 11}, {PerSeat: 101}, ofLevels(reject("catch-all", 500)), ofLevels(exempt("a"))} {
		c := told
		c.Schemas = copyOf(filled).Schemas
		refuses(t, c, "", api.ErrLong)
		c.Schemas = ofLength(t, 65536).Schemas
		check(t, c)
	}
}

// namesInOrder are names, byte by byte: the beginning of another one goes ahead of it, - ahead of digits, digits ahead
// of letters.
func namesInOrder() []string {
	return []string{
		"a", "a-", "a--", "a-0", "a-a", "a0", "a0-", "a00", "a0a", "a1", "a10", "a2", "a9", "aa", "aa-", "aaa", "ab", "az", "az-", "b", "b-", "ba",
		"catch", "catch-", "catch-al", "catch-all-", "catch-all0", "catch0all", "catchall", "exemp", "exempt-", "exempt0", "exempta", "exemptz", "exex", "y",
		"z", "z-z", "z9", "zz", strings.Repeat("z", 31) + "y", strings.Repeat("z", 32),
	}
}

// P14.1, P14.3: levels by rising names, whichever is told first; what they are does not matter.
func TestNames(t *testing.T) {
	names := namesInOrder()
	for i, one := range names {
		for j, two := range names[i+1:] {
			a, b := reject(one, 9), exempt(two)
			if j%2 == 0 {
				a, b = queue(one, 1, 1), reject(two, 2)
			}
			for _, c := range []api.Config{ofLevels(a, b), ofLevels(b, a)} {
				got, err := table.Make(c)
				l := got.Config.Levels
				if err != nil || len(l) != 4 || slices.Index(l, a) < 0 || slices.Index(l, b) < 0 || slices.Index(l, a) > slices.Index(l, b) {
					t.Errorf("%q, %q: %+v, error %v", one, two, l, err)
				}
				check(t, c)
			}
		}
	}
	r := seed
	for range 2000 {
		chosen := shuffled(&r, names)[:r.below(15)]
		var levels []api.Level
		for i, name := range chosen {
			levels = append(levels, reject(name, i))
		}
		got, err := table.Make(ofLevels(levels...))
		var want []string
		for _, l := range got.Config.Levels {
			want = append(want, l.Name)
		}
		if err != nil || len(want) != len(chosen)+2 || !slices.IsSortedFunc(want, strings.Compare) {
			t.Errorf("%q: %q, error %v", chosen, want, err)
		}
		check(t, ofLevels(levels...))
	}
}

// P14.1: a name with a byte above the letters, or a great letter, is none.
func TestNamesThatAreNone(t *testing.T) {
	for _, name := range []string{"a{", "a~", "a\x7f", "a\xff", "ä", "A", "aB", "a_", "a`", "a/", "a:", "a.", "-a", "0a", "", " a", "a\x00", strings.Repeat("a", 33)} {
		refuses(t, ofLevels(exempt("a"), exempt(name)), "", api.ErrForm)
		refuses(t, ofLevels(exempt(name), exempt("a")), "", api.ErrForm)
		refuses(t, ofSchemas(schema("a", 2), schema(name, 2)), "", api.ErrForm)
	}
}

// P14.1, P14.3: schemas of one rank by rising names, whatever their rank is; those of other names that are there too.
func TestOneRank(t *testing.T) {
	names := namesInOrder()
	for _, rank := range []int{1, 2, 9, 10, 100, 5000, 9999, 10000} {
		for i, one := range names {
			two := names[(i*7+3)%len(names)]
			if one == two {
				continue
			}
			c := ofSchemas(schema(one, rank), schema(two, rank))
			got, err := table.Make(c)
			if err != nil || len(got.Config.Schemas) != 4 {
				t.Fatalf("%q, %q: %+v, error %v", one, two, got, err)
			}
			for k, s := range got.Config.Schemas[1:] {
				if ahead := got.Config.Schemas[k]; ahead.Rank > s.Rank || ahead.Rank == s.Rank && ahead.Name >= s.Name {
					t.Errorf("%q, %q: %+v", one, two, got.Config.Schemas)
				}
			}
			check(t, c)
		}
	}
}

func schemaNames(t *testing.T, c api.Config) []string {
	t.Helper()
	got, err := table.Make(c)
	if err != nil {
		t.Fatalf("%+v: %v", c, err)
	}
	var names []string
	for _, s := range got.Config.Schemas {
		names = append(names, s.Name)
	}
	return names
}

// P14.1: schemas by rising ranks, as numbers and not as texts, whatever their names are.
func TestRanks(t *testing.T) {
	for _, c := range []struct {
		told []api.Schema
		want []string
	}{
		{[]api.Schema{schema("a", 10), schema("b", 9)}, []string{"exempt", "b", "a", "catch-all"}},
		{[]api.Schema{schema("a", 9999), schema("b", 10000), schema("d", 10000)}, []string{"exempt", "a", "b", "catch-all", "d"}},
		{[]api.Schema{schema("a", 2), schema("b", 1), schema("f", 1)}, []string{"b", "exempt", "f", "a", "catch-all"}},
		{[]api.Schema{schema("z", 2), schema("y", 3), schema("x", 4), schema("w", 20)}, []string{"exempt", "z", "y", "x", "w", "catch-all"}},
		{[]api.Schema{schema("a", 1), schema("a-", 1), schema("a0", 1), schema("aa", 1)}, []string{"a", "a-", "a0", "aa", "exempt", "catch-all"}},
		{[]api.Schema{schema("a", 1000), schema("b", 999), schema("c", 100), schema("d", 99)}, []string{"exempt", "d", "c", "b", "a", "catch-all"}},
		{[]api.Schema{schema("catch-al", 10000), schema("catch-all0", 10000), schema("catch", 10000)}, []string{"exempt", "catch", "catch-al", "catch-all", "catch-all0"}},
	} {
		if got := schemaNames(t, ofSchemas(c.told...)); !slices.Equal(got, c.want) {
			t.Errorf("%+v: %q; want %q", c.told, got, c.want)
		}
		check(t, ofSchemas(c.told...))
	}
	r := seed
	for range 2000 {
		var l []api.Schema
		for _, name := range shuffled(&r, namesInOrder())[:r.below(31)] {
			l = append(l, schema(name, 1+r.below(pick(&r, 1, 2, 5, 10000))))
		}
		check(t, ofSchemas(l...))
	}
}

// orders of a list: all of them.
func orders[T any](l []T) [][]T {
	if len(l) == 0 {
		return [][]T{nil}
	}
	var all [][]T
	for i := range l {
		rest := slices.Delete(slices.Clone(l), i, i+1)
		for _, o := range orders(rest) {
			all = append(all, append([]T{l[i]}, o...))
		}
	}
	return all
}

// P14.3: all orders of levels and of schemas make one table; rules and words in another order make another one.
func TestOrders(t *testing.T) {
	rules := []api.Rule{{Users: []string{"v", "u"}, Verbs: star}, {Groups: []string{"g"}}}
	levels := []api.Level{queue("a", 8, 2), exempt("exempt"), reject("b", 0), reject("catch-all", 1), exempt("a-b")}
	schemas := []api.Schema{
		{Name: "s", Level: "b", Rank: 5, By: api.BySpace, Rules: rules}, schema("exempt", 1), schema("t", 5),
		{Name: "catch-all", Level: "catch-all", Rank: 10000, Rules: []api.Rule{ruleOfAll()}}, schema("a", 10000),
	}
	want, err := table.Make(api.Config{Total: 5, Levels: levels, Schemas: schemas})
	if err != nil {
		t.Fatal(err)
	}
	for _, l := range orders(levels) {
		for _, s := range orders(schemas) {
			got, err := table.Make(api.Config{Total: 5, Levels: l, Schemas: s})
			if err != nil || !sameTable(got, want) {
				t.Fatalf("%+v, %+v: %+v, error %v; want %+v", l, s, got, err, want)
			}
		}
	}
	turned := copyOf(api.Config{Total: 5, Levels: levels, Schemas: schemas})
	slices.Reverse(turned.Schemas[0].Rules)
	other, err := table.Make(turned)
	if err != nil || other.Digest == want.Digest || !slices.Equal(other.Config.Schemas[1].Rules[0].Groups, []string{"g"}) {
		t.Errorf("%+v, error %v", other, err)
	}
	turned = copyOf(api.Config{Total: 5, Levels: levels, Schemas: schemas})
	slices.Reverse(turned.Schemas[0].Rules[0].Users)
	other, err = table.Make(turned)
	if err != nil || other.Digest == want.Digest || !slices.Equal(other.Config.Schemas[1].Rules[0].Users, []string{"u", "v"}) {
		t.Errorf("%+v, error %v", other, err)
	}
}

// P14.1: the Digest is of all that is told: whatever is changed, it is another one.
func TestDigests(t *testing.T) {
	base := func() api.Config {
		return api.Config{
			Total: 7, Period: 8, PerSeat: 9, Most: 11,
			Levels:  []api.Level{queue("a", 8, 2), reject("b", 4)},
			Schemas: []api.Schema{{Name: "s", Level: "a", Rank: 5, By: api.ByUser, Rules: []api.Rule{ruleOfAll()}}},
		}
	}
	met := map[uint64]int{}
	for i, change := range []func(c *api.Config){
		func(c *api.Config) {},
		func(c *api.Config) { c.Total++ },
		func(c *api.Config) { c.Period++ },
		func(c *api.Config) { c.PerSeat++ },
		func(c *api.Config) { c.Most++ },
		func(c *api.Config) { c.Levels[0].Name, c.Schemas[0].Level = "c", "c" },
		func(c *api.Config) { c.Levels[0].Shares++ },
		func(c *api.Config) { c.Levels[0].Lend++ },
		func(c *api.Config) { c.Levels[0].Borrow++ },
		func(c *api.Config) { c.Levels[0].Borrow = -1 },
		func(c *api.Config) { c.Levels[0].Queues++ },
		func(c *api.Config) { c.Levels[0].Hand++ },
		func(c *api.Config) { c.Levels[0].Length++ },
		func(c *api.Config) { c.Levels[0].Wait++ },
		func(c *api.Config) { c.Levels[0].Guess++ },
		func(c *api.Config) { c.Levels[1] = exempt("b") },
		func(c *api.Config) { c.Levels = c.Levels[:1] },
		func(c *api.Config) { c.Schemas[0].Name = "t" },
		func(c *api.Config) { c.Schemas[0].Level = "b" },
		func(c *api.Config) { c.Schemas[0].Rank++ },
		func(c *api.Config) { c.Schemas[0].By++ },
		func(c *api.Config) { c.Schemas[0].Rules = nil },
		func(c *api.Config) { c.Schemas[0].Rules[0].Users = nil },
		func(c *api.Config) { c.Schemas[0].Rules[0].Groups = []string{"g"} },
		func(c *api.Config) { c.Schemas[0].Rules[0].Verbs = nil },
		func(c *api.Config) { c.Schemas[0].Rules[0].Resources = nil },
		func(c *api.Config) { c.Schemas[0].Rules[0].Spaces = nil },
		func(c *api.Config) { c.Schemas = nil },
	} {
		c := base()
		change(&c)
		got, err := table.Make(c)
		if err != nil {
			t.Errorf("change %d: %v", i, err)
		}
		if other, there := met[got.Digest]; there {
			t.Errorf("changes %d and %d: %x", i, other, got.Digest)
		}
		met[got.Digest] = i
		check(t, c)
	}
}

// P14.2: each level of a table that was made, by its name; none of another name.
func TestLevel(t *testing.T) {
	names := shuffled(new(seed), namesInOrder())
	var levels []api.Level
	for i, name := range names[:14] {
		levels = append(levels, queue(name, 8, 1+i%8))
	}
	made, err := table.Make(ofLevels(levels...))
	if err != nil {
		t.Fatal(err)
	}
	levels = append(levels, exempt("exempt"), api.Level{Name: "catch-all", Kind: api.Reject, Shares: 5, Borrow: -1})
	for _, l := range levels {
		if got, ok := table.Level(made, l.Name); !ok || got != l {
			t.Errorf("%q: %+v, %v", l.Name, got, ok)
		}
	}
	for _, name := range append(names[14:], "", " ", "exempt ", "Exempt", "catch-all\x00", "*", "\xff", "zzzzz", "0", strings.Repeat("z", 100000)) {
		if got, ok := table.Level(made, name); ok || got != (api.Level{}) {
			t.Errorf("%q: %+v, %v", name, got, ok)
		}
	}
}

// P14.2: of tables laid by hand: without levels; in no order; with a name twice; with names that are none. The schemas
// and the Digest do not matter.
func TestLevelOfAnyTable(t *testing.T) {
	for _, empty := range []api.Table{{}, {Config: api.Config{Levels: []api.Level{}}}, {Config: ofSchemas(schema("a", 1)), Digest: 7}} {
		for _, name := range []string{"", "a", "exempt", "catch-all"} {
			if got, ok := table.Level(empty, name); ok || got != (api.Level{}) {
				t.Errorf("%q: %+v, %v", name, got, ok)
			}
		}
	}
	one, two, three := reject("a", 1), queue("a", 2, 3), exempt("a")
	z, none, zero := api.Level{Name: "z", Kind: -4, Guess: math.MaxInt}, api.Level{Name: "no name \xff"}, api.Level{}
	for _, laid := range orders([]api.Level{one, two, three, z, none}) {
		laid = append(laid, zero)
		of := api.Table{Config: ofLevels(laid...), Digest: 3}
		for _, l := range laid {
			first := l
			for i := len(laid) - 1; i >= 0; i-- {
				if laid[i].Name == l.Name {
					first = laid[i]
				}
			}
			if got, ok := table.Level(of, l.Name); !ok || got != first {
				t.Errorf("%q of %+v: %+v, %v", l.Name, laid, got, ok)
			}
		}
		if got, ok := table.Level(of, "b"); ok || got != zero {
			t.Errorf("b of %+v: %+v, %v", laid, got, ok)
		}
	}
	twice := api.Table{Config: ofLevels(exempt("b"), one, exempt("c"), two)}
	if got, ok := table.Level(twice, "a"); !ok || got != one {
		t.Errorf("%+v, %v", got, ok)
	}
}

func mixedLevel(r *random, name string) api.Level {
	switch {
	case name == "exempt" && !r.one(40):
		return exempt(name)
	case name == "catch-all" && !r.one(40):
		return reject(name, 1+r.below(9))
	case r.one(3):
		return exempt(name)
	case r.one(2):
		return reject(name, r.below(9))
	case r.one(40):
		return queue(name, pick(r, 1, 64, 65), 8)
	}
	return queue(name, 8+r.below(5), 1+r.below(8))
}

func mixedList(r *random) []string {
	return pick(r, nil, []string{}, star, []string{"a"}, []string{"b", "a"}, []string{"a", "b"})
}

func mixedSchema(r *random, name string, levels []api.Level) api.Schema {
	s := api.Schema{Name: name, Level: "exempt", Rank: 1 + r.below(pick(r, 1, 3, 10000)), By: r.below(3)}
	if len(levels) > 0 {
		s.Level = pick(r, levels...).Name
	}
	for range r.below(4) {
		s.Rules = append(s.Rules, api.Rule{
			Users: mixedList(r), Groups: mixedList(r), Verbs: mixedList(r), Resources: mixedList(r), Spaces: mixedList(r),
		})
	}
	if name == "exempt" && !r.one(20) {
		s.Level, s.Rank = "exempt", 1
	}
	if name == "catch-all" && !r.one(20) {
		s.Level, s.Rank, s.Rules = "catch-all", 10000, append(s.Rules, ruleOfAll())
	}
	if r.one(60) {
		s.Level = pick(r, "none", "", "exempt", "catch-all")
	}
	return s
}

// mixed has mostly nothing wrong with it, and leaves something out.
func mixed(r *random) api.Config {
	c := api.Config{Total: r.below(3), Period: r.below(3), PerSeat: r.below(3), Most: r.below(3)}
	names := []string{"exempt", "catch-all", "a", "a-", "a0", "aa", "b", "catch", "z"}
	for _, name := range shuffled(r, names)[:r.below(8)] {
		c.Levels = append(c.Levels, mixedLevel(r, name))
	}
	for _, name := range shuffled(r, names)[:r.below(8)] {
		c.Schemas = append(c.Schemas, mixedSchema(r, name, c.Levels))
	}
	if r.one(60) {
		c.Total = pick(r, -1, 4097, math.MinInt)
	}
	return c
}

// P14.1, P14.3: mixed configurations, and the same ones in another order.
func TestMixed(t *testing.T) {
	r := seed
	made, refused := 0, map[api.Errno]int{}
	for range 8000 {
		c := mixed(&r)
		if err := check(t, c); err != nil {
			refused[fault.Code(err)]++
			continue
		}
		made++
		want, _ := table.Make(c)
		c.Levels, c.Schemas = shuffled(&r, c.Levels), shuffled(&r, c.Schemas)
		makes(t, c, want)
	}
	if made < 3000 {
		t.Errorf("%d are made", made)
	}
	for _, e := range []api.Errno{api.ErrForm, api.ErrRange, api.ErrNone, api.ErrFixed} {
		if refused[e] < 20 {
			t.Errorf("the error %d is met %d times", e, refused[e])
		}
	}
}

// Rule 1: whatever is given, there is an answer.
func TestAnything(t *testing.T) {
	r := seed
	number := func() int { return pick(&r, 0, 0, 0, 1, 2, 3, -1, 64, 65, 10000, math.MaxInt, math.MinInt) }
	name := func() string { return pick(&r, "exempt", "catch-all", "a", "b", "", "*", "\xff\x00", "a b") }
	for range 20000 {
		c := api.Config{Total: number(), Period: number(), PerSeat: number(), Most: number()}
		for range r.below(20) {
			c.Levels = append(c.Levels, api.Level{Name: name(), Kind: number(), Shares: number(), Queues: number(), Hand: number(), Guess: number()})
		}
		for range r.below(4) {
			s := api.Schema{Name: name(), Level: name(), Rank: number(), By: number(), Rules: make([]api.Rule, r.below(10))}
			for i := range s.Rules {
				s.Rules[i].Users = []string{name()}
			}
			c.Schemas = append(c.Schemas, s)
		}
		check(t, c)
		of, n := api.Table{Config: c, Digest: r.next()}, name()
		want := slices.IndexFunc(c.Levels, func(l api.Level) bool { return l.Name == n })
		if got, ok := table.Level(of, n); ok != (want >= 0) || ok && got != c.Levels[want] || !ok && got != (api.Level{}) {
			t.Errorf("%q of %+v: %+v, %v", n, c.Levels, got, ok)
		}
	}
}

// withRoom gives each list spare room, in which something stands that would be missed or found.
func withRoom(c api.Config) api.Config {
	c = copyOf(c)
	for i := range c.Schemas {
		for j := range c.Schemas[i].Rules {
			for _, l := range listsOf(&c.Schemas[i].Rules[j]) {
				*l = roomBehind(*l, "spare")
			}
		}
		c.Schemas[i].Rules = roomBehind(c.Schemas[i].Rules, api.Rule{Users: []string{"spare"}})
	}
	c.Levels = roomBehind(c.Levels, exempt("spare"))
	c.Schemas = roomBehind(c.Schemas, schema("spare", 1))
	return c
}

func roomBehind[T any](l []T, spare T) []T {
	more := append(slices.Clone(l), spare, spare, spare)
	return more[:len(l)]
}

// whole is a configuration with all lists as long as they have room.
func whole(c api.Config) api.Config {
	c.Levels = c.Levels[:cap(c.Levels)]
	c.Schemas = slices.Clone(c.Schemas[:cap(c.Schemas)])
	for i := range c.Schemas {
		c.Schemas[i].Rules = slices.Clone(c.Schemas[i].Rules[:cap(c.Schemas[i].Rules)])
		for j := range c.Schemas[i].Rules {
			for _, l := range listsOf(&c.Schemas[i].Rules[j]) {
				*l = (*l)[:cap(*l)]
			}
		}
	}
	return c
}

// wordsIn are all words of the rules' lists, with those that stand in their spare room.
func wordsIn(c api.Config) []*string {
	var words []*string
	for _, s := range whole(c).Schemas {
		for j := range s.Rules {
			for _, l := range listsOf(&s.Rules[j]) {
				for k := range *l {
					words = append(words, &(*l)[k])
				}
			}
		}
	}
	return words
}

// overwrite all that a configuration leads to, its spare room too: the words first, then the lists in which they stand.
func overwrite(c api.Config) {
	for _, word := range wordsIn(c) {
		*word = "written over"
	}
	for _, s := range c.Schemas[:cap(c.Schemas)] {
		for j := range s.Rules[:cap(s.Rules)] {
			s.Rules[:cap(s.Rules)][j] = api.Rule{Users: []string{"written", "over"}}
		}
	}
	for i := range c.Levels[:cap(c.Levels)] {
		c.Levels[:cap(c.Levels)][i] = api.Level{Name: "written over", Kind: -7}
	}
	for i := range c.Schemas[:cap(c.Schemas)] {
		c.Schemas[:cap(c.Schemas)][i] = api.Schema{Name: "written over", Rank: -7}
	}
}

// several are configurations of which there are tables, in no order, each list with spare room.
func several(t *testing.T) []api.Config {
	t.Helper()
	r := seed
	made, err := table.Make(api.Config{})
	if err != nil {
		t.Fatal(err)
	}
	l := []api.Config{{}, withRoom(api.Config{}), withRoom(made.Config), copyOf(made.Config)}
	for len(l) < 2000 {
		if c := withRoom(mixed(&r)); rules.Check(fill.Fill(c)) == nil {
			l = append(l, c)
		}
	}
	return l
}

// Rule 3: what is handed in is not changed, its spare room and its order neither; and an answer is memory of its own:
// written over, what was given and the next answer stay as they are, and the other way round.
func TestOwnMemory(t *testing.T) {
	for _, c := range several(t) {
		given := copyOf(whole(c))
		want, err := wanted(c)
		if err != nil {
			t.Fatal(err)
		}
		first, _ := table.Make(c)
		if !same(whole(c), given) {
			t.Fatalf("changed: %+v", c)
		}
		second, _ := table.Make(c)
		overwrite(first.Config)
		if !same(whole(c), given) {
			t.Fatalf("written over by the answer: %+v", c)
		}
		if !sameTable(second, want) {
			t.Fatalf("written over by the answer ahead of it: %+v", second)
		}
		makes(t, c, want)
		again, _ := table.Make(second.Config)
		overwrite(second.Config)
		if !sameTable(again, want) {
			t.Fatalf("written over by the table of which it was made: %+v", again)
		}
		third, _ := table.Make(c)
		overwrite(c)
		if !sameTable(third, want) {
			t.Fatalf("written over by what was given: %+v", third)
		}
		tells(t, api.Config{}, usual)
	}
}

// Rule 3: what is refused is not changed either.
func TestRefusedIsNotChanged(t *testing.T) {
	r := seed
	all := []api.Config{ofLength(t, 65537), ofLevels(queue("z", 2, 3), exempt("a")), ofSchemas(schema("z", 9), schema("exempt", 2))}
	for len(all) < 500 {
		if c := mixed(&r); rules.Check(fill.Fill(c)) != nil {
			all = append(all, c)
		}
	}
	for _, c := range all {
		c = withRoom(c)
		given := copyOf(whole(c))
		if err := check(t, c); err == nil {
			t.Fatalf("%+v: is not refused", c)
		}
		if !same(whole(c), given) {
			t.Fatalf("changed: %+v", c)
		}
	}
}

// Rule 3: no two lists of one answer share any memory, also where those that were given do.
func TestListsApart(t *testing.T) {
	word := []string{"a", "b"}
	rule := api.Rule{Users: word, Groups: word, Verbs: word[:1], Resources: word, Spaces: word}
	shared := ofSchemas(schema("s", 3), schema("t", 2), schema("u", 2))
	lists := []api.Rule{rule, rule}
	shared.Schemas[0].Rules, shared.Schemas[1].Rules, shared.Schemas[2].Rules = lists, lists, lists[:1]
	check(t, shared)
	for _, c := range append(several(t), shared) {
		made, err := table.Make(c)
		if err != nil {
			t.Fatal(err)
		}
		words := wordsIn(made.Config)
		for i, w := range words {
			*w = fmt.Sprint(i)
		}
		for i, w := range words {
			if *w != fmt.Sprint(i) {
				t.Fatalf("two lists share %q", *w)
			}
		}
		for i, s := range made.Config.Schemas {
			for j := range s.Rules[:cap(s.Rules)] {
				s.Rules[:cap(s.Rules)][j] = api.Rule{Users: []string{fmt.Sprint(i, j)}}
			}
		}
		for i, s := range made.Config.Schemas {
			for j, r := range s.Rules[:cap(s.Rules)] {
				if !slices.Equal(r.Users, []string{fmt.Sprint(i, j)}) {
					t.Fatalf("two schemas share a rule: %+v", r)
				}
			}
		}
	}
}

// Rule 3: Level does not change the table, nor look into the spare room of its levels.
func TestLevelLeavesTheTable(t *testing.T) {
	for _, c := range several(t) {
		of := api.Table{Config: c, Digest: 5}
		given := copyOf(whole(c))
		for _, name := range []string{"spare", "exempt", "a", ""} {
			want := slices.ContainsFunc(c.Levels, func(l api.Level) bool { return l.Name == name })
			if got, ok := table.Level(of, name); ok != want || got.Name != name && ok {
				t.Fatalf("%q of %+v: %+v, %v", name, c.Levels, got, ok)
			}
		}
		if !same(whole(c), given) {
			t.Fatalf("changed: %+v", c)
		}
	}
}

// Rule 4: an answer hangs on the configuration alone, not on those of which tables were made ahead of it.
func TestCallsApart(t *testing.T) {
	r := seed
	for range 1000 {
		table.Make(mixed(&r))
		tells(t, api.Config{}, usual)
		table.Make(mixed(&r))
		refuses(t, ofLevels(queue("a", 2, 3)), "level a", api.ErrRange)
	}
}
