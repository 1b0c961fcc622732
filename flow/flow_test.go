package flow_test

import (
	"fmt"
	stdfnv "hash/fnv"
	"math"
	"reflect"
	"slices"
	"strconv"
	"strings"
	"testing"

	"usher/api"
	"usher/conf"
	"usher/flow"
	"usher/match"
	"usher/table"
)

// random are numbers, the same ones each time.
type random uint64

func (r *random) next() uint64 {
	x := uint64(*r)
	x ^= x << 13
	x ^= x >> 7
	x ^= x << 17
	*r = random(x)
	return x
}

func (r *random) below(n int) int { return int((r.next() >> 11) % uint64(n)) }

// one in n times.
func (r *random) one(n int) bool { return r.below(n) == 0 }

func pick[T any](r *random, of ...T) T { return of[r.below(len(of))] }

const seed = random(88172645463325252)

var all = []string{"*"}

func list(texts ...string) []string { return texts }

// bys are the numbers by which a schema may tell flows apart, and some that are none of them.
var bys = [...]int{api.ByNone, api.ByUser, api.BySpace, 3, 4, 9, -1, -2, 1 << 8, 1<<8 + 1, 1<<32 + 1, 1<<32 + 2, math.MaxInt, math.MinInt}

// odd are texts of any bytes.
var odd = [...]string{"", "u", "s", "*", "-", " ", "a b", "a,b", "\n", "\x00", "a\x00b", "\x00a", "\xff\xfe", "é", "e\u0301", strings.Repeat("x", 100000)}

// What follows is the chapter once more, by other means: a table of keys, the schemas from the last one on, and the
// hash of the library.

func wantKey(by int, q api.Request) string {
	keys := []string{"", q.User, q.Space}
	for place, key := range keys {
		if place == by {
			return key
		}
	}
	return ""
}

func hashOf(schema, key string) uint64 {
	h := stdfnv.New64a()
	h.Write([]byte(schema))
	h.Write([]byte{0})
	h.Write([]byte(key))
	return h.Sum64()
}

func classOf(s api.Schema, q api.Request) api.Class {
	key := wantKey(s.By, q)
	return api.Class{Schema: s.Name, Level: s.Level, Key: key, Flow: hashOf(s.Name, key)}
}

func wantClass(schemas []api.Schema, q api.Request) (api.Class, api.Errno) {
	want, e := api.Class{}, api.ErrNone
	for i := len(schemas) - 1; i >= 0; i-- {
		if match.Schema(schemas[i], q) {
			want, e = classOf(schemas[i], q), api.OK
		}
	}
	return want, e
}

func tableOf(schemas ...api.Schema) api.Table { return api.Table{Config: api.Config{Schemas: schemas}} }

// brief is what is told of what is wrong: it may be longer than anybody reads, and of bytes that nobody can.
func brief(of any) string {
	text := fmt.Sprintf("%+v", of)
	return strconv.Quote(text[:min(len(text), 600)])
}

// is: the request is of this class.
func is(t *testing.T, of api.Table, q api.Request, want api.Class) {
	t.Helper()
	if got, e := flow.Classify(of, q); got != want || e != api.OK {
		t.Errorf("%s: %s = %s, error %d; want %s", brief(of.Config.Schemas), brief(q), brief(got), e, brief(want))
	}
}

// none: the request has no class, and none is told.
func none(t *testing.T, of api.Table, q api.Request) {
	t.Helper()
	if got, e := flow.Classify(of, q); got != (api.Class{}) || e != api.ErrNone {
		t.Errorf("%s: %s = %s, error %d; want none", brief(of.Config.Schemas), brief(q), brief(got), e)
	}
}

// holds: the class, or that there is none, is what the chapter says.
func holds(t *testing.T, schemas []api.Schema, q api.Request) {
	t.Helper()
	want, e := wantClass(schemas, q)
	if e == api.OK {
		is(t, tableOf(schemas...), q, want)
	} else {
		none(t, tableOf(schemas...), q)
	}
}

func ofUsers(names ...string) api.Rule {
	return api.Rule{Users: names, Verbs: all, Resources: all, Spaces: all}
}

// schema of users, of a level of its own.
func schema(name string, by int, users ...string) api.Schema {
	return api.Schema{Name: name, Level: "level-" + name, Rank: 5, By: by, Rules: []api.Rule{ofUsers(users...)}}
}

// P16.1: each By, and numbers that are none of them.
func TestKey(t *testing.T) {
	q := api.Request{User: "u", Groups: list("g", "h"), Verb: "get", Resource: "pods", Space: "s", Objects: 7}
	for _, c := range []struct {
		by   int
		want string
	}{
		{api.ByNone, ""},
		{api.ByUser, "u"},
		{api.BySpace, "s"},
		{3, ""}, {9, ""}, {-1, ""}, {-2, ""}, {1 << 8, ""}, {1<<8 + 1, ""}, {1<<32 + 1, ""}, {1<<32 + 2, ""},
		{math.MaxInt, ""}, {math.MinInt, ""}, {math.MinInt + 1, ""},
	} {
		if got := flow.Key(c.by, q); got != c.want {
			t.Errorf("Key(%d) = %q, want %q", c.by, got, c.want)
		}
	}
}

// P16.1: an empty user, an empty space, and texts of any bytes; nothing else of the request matters.
func TestKeyOfAnyTexts(t *testing.T) {
	for _, user := range odd {
		for _, space := range odd {
			for _, q := range []api.Request{
				{User: user, Space: space},
				{User: user, Space: space, Groups: list("g", user, space), Verb: "v", Resource: "r", Objects: -1},
			} {
				for _, by := range bys {
					if got := flow.Key(by, q); got != wantKey(by, q) {
						t.Fatalf("Key(%d) of user %.40q and space %.40q = %.40q", by, user, space, got)
					}
				}
			}
		}
	}
}

// P16.2: the chapter's examples.
func TestExamples(t *testing.T) {
	made, err := table.Make(api.Config{})
	if err != nil {
		t.Fatal(err)
	}
	for _, groups := range [][]string{nil, {}} {
		want := api.Class{Schema: "catch-all", Level: "catch-all", Key: "u", Flow: hashOf("catch-all", "u")}
		is(t, made, api.Request{User: "u", Groups: groups}, want)
	}
	exempt := api.Class{Schema: "exempt", Level: "exempt", Flow: hashOf("exempt", "")}
	is(t, made, api.Request{Groups: list("system:masters")}, exempt)
	is(t, made, api.Request{User: "u", Groups: list("system:masters"), Space: "s"}, exempt)
}

// P16.2: a table of no schemas has no classes, whatever else it has.
func TestNoSchemas(t *testing.T) {
	for _, of := range []api.Table{
		{},
		tableOf(),
		{Config: api.Config{Schemas: []api.Schema{}}},
		{Config: api.Config{Schemas: []api.Schema{schema("a", 1, "*")}[:0]}},
		{Config: api.Config{Total: 100, Levels: []api.Level{{Name: "catch-all", Kind: api.Reject}}}, Digest: 5},
	} {
		none(t, of, api.Request{})
		none(t, of, api.Request{User: "u", Groups: list("system:masters")})
	}
}

// P16.2: what a class says, by each By, and by requests of any texts.
func TestClass(t *testing.T) {
	for _, by := range bys {
		for _, user := range odd {
			for _, space := range odd {
				q := api.Request{User: user, Space: space, Groups: list("g")}
				s := schema("a", by, "*")
				key := wantKey(by, q)
				is(t, tableOf(s), q, api.Class{Schema: "a", Level: "level-a", Key: key, Flow: hashOf("a", key)})
			}
		}
	}
}

// P16.2: schemas and levels of any texts: an empty name is one, and a level need not be there.
func TestNamesOfAnyTexts(t *testing.T) {
	q := api.Request{User: "u"}
	for _, name := range odd {
		for _, level := range odd {
			s := schema(name, api.ByUser, "u")
			s.Level = level
			is(t, tableOf(s), q, api.Class{Schema: name, Level: level, Key: "u", Flow: hashOf(name, "u")})
			is(t, tableOf(s, schema("b", 0, "u")), q, api.Class{Schema: name, Level: level, Key: "u", Flow: hashOf(name, "u")})
			none(t, tableOf(s), api.Request{User: "v"})
		}
	}
	// All is zero in the class but its flow: it is there all the same.
	empty := api.Schema{Rules: []api.Rule{ofUsers("*")}}
	is(t, tableOf(empty), api.Request{}, api.Class{Flow: hashOf("", "")})
	none(t, tableOf(api.Schema{}), api.Request{})
}

// P16.2: the flow is of the schema and the key, not of the level.
func TestFlow(t *testing.T) {
	flowOf := func(s api.Schema, q api.Request) uint64 {
		c, e := flow.Classify(tableOf(s), q)
		if e != api.OK {
			t.Errorf("error %d", e)
		}
		return c.Flow
	}
	u, v := api.Request{User: "u", Space: "s"}, api.Request{User: "v", Space: "s"}
	a, b := schema("a", api.ByUser, "*"), schema("b", api.ByUser, "*")
	if flowOf(a, u) == flowOf(a, v) || flowOf(a, u) == flowOf(b, u) {
		t.Error("two flows are one")
	}
	a.By = api.BySpace
	if flowOf(a, u) != flowOf(a, v) {
		t.Error("one space is two flows")
	}
	a.By = api.ByNone
	elsewhere := a
	elsewhere.Level = "c"
	if flowOf(a, u) != flowOf(a, v) || flowOf(a, u) != flowOf(elsewhere, u) {
		t.Error("one flow is two")
	}
	// Where the schema's name ends counts, too.
	if flowOf(schema("ab", api.ByUser, "*"), api.Request{User: "c"}) == flowOf(schema("a", api.ByUser, "*"), api.Request{User: "bc"}) {
		t.Error("ab and c are a and bc")
	}
	c, _ := flow.Classify(tableOf(schema("foo", api.ByUser, "*")), api.Request{User: "bar"})
	if c.Flow != 0x8a5f40d8243888aa {
		t.Errorf("flow of foo and bar: %#x", c.Flow)
	}
}

// P16.2: none that speaks, one at each place, and several, the first of them at each place.
func TestFirst(t *testing.T) {
	q := api.Request{User: "u", Space: "s"}
	for many := 1; many <= 12; many++ {
		for which := range 1 << min(many, 8) {
			schemas := make([]api.Schema, many)
			first := -1
			for i := range schemas {
				schemas[i] = schema("n"+strconv.Itoa(i), i%4, "v")
				if i < 8 && which>>i&1 == 1 || i >= 8 && which&1 == 1 {
					schemas[i].Rules = append(schemas[i].Rules, ofUsers("u"))
					if first < 0 {
						first = i
					}
				}
			}
			if first < 0 {
				none(t, tableOf(schemas...), q)
				continue
			}
			name, key := "n"+strconv.Itoa(first), list("", "u", "s", "")[first%4]
			is(t, tableOf(schemas...), q, api.Class{Schema: name, Level: "level-" + name, Key: key, Flow: hashOf(name, key)})
		}
	}
	for place := range 40 {
		schemas := make([]api.Schema, 40)
		for i := range schemas {
			schemas[i] = schema(strconv.Itoa(i), 1, "v")
		}
		schemas[place] = schema("here", 2, "u")
		is(t, tableOf(schemas...), q, api.Class{Schema: "here", Level: "level-here", Key: "s", Flow: hashOf("here", "s")})
	}
}

// P16.2: the order is the table's own, whatever the ranks, the names, and the levels that are listed.
func TestOrderAsItStands(t *testing.T) {
	q := api.Request{User: "u"}
	late, early := schema("z", api.ByUser, "u"), schema("a", api.ByNone, "*")
	late.Rank, early.Rank = api.MaxRank, 1
	is(t, tableOf(late, early), q, api.Class{Schema: "z", Level: "level-z", Key: "u", Flow: hashOf("z", "u")})
	is(t, tableOf(early, late), q, api.Class{Schema: "a", Level: "level-a", Flow: hashOf("a", "")})
	for _, rank := range []int{0, -1, api.MaxRank + 1, math.MaxInt, math.MinInt} {
		late.Rank = rank
		is(t, tableOf(late, early), q, api.Class{Schema: "z", Level: "level-z", Key: "u", Flow: hashOf("z", "u")})
	}
	of := tableOf(late, early)
	of.Config.Levels = []api.Level{{Name: "level-a", Kind: api.Exempt}}
	of.Digest = math.MaxUint64
	is(t, of, q, api.Class{Schema: "z", Level: "level-z", Key: "u", Flow: hashOf("z", "u")})
	// No name is a special one.
	fixed := schema("catch-all", api.ByUser, "*")
	is(t, tableOf(fixed, schema("exempt", 0, "u")), q, api.Class{Schema: "catch-all", Level: "level-catch-all", Key: "u", Flow: hashOf("catch-all", "u")})
	none(t, tableOf(schema("catch-all", api.ByUser, "v"), schema("exempt", 0, "v")), q)
	none(t, tableOf(schema("catch-all", api.ByUser, "v"), schema("exempt", 0, "v")), api.Request{Groups: list("system:masters")})
}

// P16.2: schemas of one name, and of one level.
func TestAlike(t *testing.T) {
	first, second := schema("a", api.ByUser, "u"), schema("a", api.BySpace, "u", "v")
	second.Level = "other"
	both := tableOf(first, second)
	is(t, both, api.Request{User: "u", Space: "s"}, api.Class{Schema: "a", Level: "level-a", Key: "u", Flow: hashOf("a", "u")})
	is(t, both, api.Request{User: "v", Space: "s"}, api.Class{Schema: "a", Level: "other", Key: "s", Flow: hashOf("a", "s")})
	none(t, both, api.Request{User: "w"})
	b, c := schema("b", api.ByUser, "u"), schema("c", api.BySpace, "u", "v")
	b.Level, c.Level = "one", "one"
	both = tableOf(b, c)
	is(t, both, api.Request{User: "u", Space: "s"}, api.Class{Schema: "b", Level: "one", Key: "u", Flow: hashOf("b", "u")})
	is(t, both, api.Request{User: "v", Space: "s"}, api.Class{Schema: "c", Level: "one", Key: "s", Flow: hashOf("c", "s")})
	is(t, tableOf(b, b, b), api.Request{User: "u"}, api.Class{Schema: "b", Level: "one", Key: "u", Flow: hashOf("b", "u")})
}

// P16.2: each thing that a rule asks for counts.
func TestEachThingCounts(t *testing.T) {
	full := api.Rule{Users: list("u"), Groups: list("g"), Verbs: list("v"), Resources: list("r"), Spaces: list("s")}
	of := tableOf(api.Schema{Name: "a", Level: "l", By: api.ByUser, Rules: []api.Rule{full}}, schema("rest", api.ByNone, "*"))
	a := api.Request{User: "u", Verb: "v", Resource: "r", Space: "s"}
	rest := api.Class{Schema: "rest", Level: "level-rest", Flow: hashOf("rest", "")}
	is(t, of, a, api.Class{Schema: "a", Level: "l", Key: "u", Flow: hashOf("a", "u")})
	for _, change := range []func(q *api.Request){
		func(q *api.Request) { q.User = "w" },
		func(q *api.Request) { q.User, q.Groups = "w", list("u", "h") },
		func(q *api.Request) { q.Verb = "" },
		func(q *api.Request) { q.Resource = "v" },
		func(q *api.Request) { q.Space = "*" },
	} {
		q := a
		change(&q)
		is(t, of, q, rest)
	}
	grouped := a
	grouped.User, grouped.Groups = "w", list("h", "g")
	is(t, of, grouped, api.Class{Schema: "a", Level: "l", Key: "w", Flow: hashOf("a", "w")})
	for _, n := range []int{-1, 1, api.MaxObjects + 1, math.MaxInt, math.MinInt} {
		q := a
		q.Objects = n
		is(t, of, q, api.Class{Schema: "a", Level: "l", Key: "u", Flow: hashOf("a", "u")})
	}
}

func (r *random) text() string { return pick(r, "a", "b", "c", "*", "", "system:masters") }

func (r *random) list(most int) []string {
	if r.one(3) {
		return all
	}
	l := make([]string, r.below(most+1))
	for i := range l {
		l[i] = r.text()
	}
	return l
}

func (r *random) schema() api.Schema {
	s := api.Schema{Name: r.text(), Level: r.text(), Rank: r.below(9) - 1, By: bys[r.below(len(bys))], Rules: make([]api.Rule, r.below(4))}
	if r.one(2) {
		s.By = r.below(3)
	}
	for i := range s.Rules {
		s.Rules[i] = api.Rule{Users: r.list(3), Groups: r.list(3), Verbs: r.list(5), Resources: r.list(5), Spaces: r.list(5)}
	}
	return s
}

func (r *random) schemas(most int) []api.Schema {
	l := make([]api.Schema, r.below(most+1))
	for i := range l {
		l[i] = r.schema()
	}
	return l
}

func (r *random) request() api.Request {
	return api.Request{User: r.text(), Groups: r.list(3), Verb: r.text(), Resource: r.text(), Space: r.text(), Objects: r.below(9)}
}

// P16.2: many tables and requests, held against the chapter said in another way.
func TestAgainstTheChapter(t *testing.T) {
	r, met := seed, [2]int{}
	for range 20000 {
		schemas, q := r.schemas(6), r.request()
		holds(t, schemas, q)
		if _, e := wantClass(schemas, q); e == api.OK {
			met[1]++
		} else {
			met[0]++
		}
		if t.Failed() {
			t.FailNow()
		}
	}
	if met[0] < 1000 || met[1] < 1000 {
		t.Errorf("%d without a class, %d with one: too few of one kind", met[0], met[1])
	}
}

// firstOf is the place of the first schema that speaks of the request.
func firstOf(schemas []api.Schema, q api.Request) int {
	for i, s := range schemas {
		if match.Schema(s, q) {
			return i
		}
	}
	return -1
}

// P16.3: what stands behind the first one that speaks changes nothing: put there, taken away, or in another order.
func TestBehindTheFirst(t *testing.T) {
	r, met := seed, 0
	for range 5000 {
		schemas, q := r.schemas(6), r.request()
		first := firstOf(schemas, q)
		if first < 0 {
			continue
		}
		met++
		want := classOf(schemas[first], q)
		is(t, tableOf(schemas...), q, want)
		for end := first + 1; end <= len(schemas); end++ {
			is(t, tableOf(schemas[:end]...), q, want)
		}
		is(t, tableOf(append(slices.Clone(schemas), r.schemas(6)...)...), q, want)
		is(t, tableOf(append(slices.Clone(schemas[:first+1]), schema("x", 1, "*"), schema("", 0, q.User))...), q, want)
		turned := slices.Clone(schemas)
		slices.Reverse(turned[first+1:])
		is(t, tableOf(turned...), q, want)
		if t.Failed() {
			t.FailNow()
		}
	}
	if met < 1000 {
		t.Errorf("%d with a class: too few", met)
	}
}

// P16.3: schemas that don't speak of a request change nothing, wherever they are put and wherever taken away.
func TestThoseThatDoNotSpeak(t *testing.T) {
	r := seed
	q := api.Request{User: "u", Groups: list("g"), Verb: "get", Resource: "pods", Space: "s"}
	nobodys := []api.Schema{{}, {Name: "a", Level: "l", Rank: -1, By: 2}, schema("b", 1, "v"), schema("b", 1), schema("", 2, "*", "g")}
	for range 5000 {
		schemas := []api.Schema{}
		for range r.below(5) {
			schemas = append(schemas, pick(&r, append(nobodys, schema("a", 1, "u"), schema("b", 2, "*"), schema("c", 0, "x", "u"))...))
		}
		want, e := flow.Classify(tableOf(schemas...), q)
		more := slices.Insert(slices.Clone(schemas), r.below(len(schemas)+1), pick(&r, nobodys...), pick(&r, nobodys...))
		less := slices.DeleteFunc(slices.Clone(schemas), func(s api.Schema) bool { return !match.Schema(s, q) })
		for _, l := range [][]api.Schema{schemas, more, less} {
			holds(t, l, q)
			if got, other := flow.Classify(tableOf(l...), q); got != want || other != e {
				t.Fatalf("%s: %s, error %d; of %s it was %s, error %d", brief(l), brief(got), other, brief(schemas), brief(want), e)
			}
		}
	}
}

// P16.3: of a table that layer 14 made each request has a class, whoever asks.
func TestOfATableThatWasMade(t *testing.T) {
	r := seed
	for _, text := range []string{
		"",
		"total 1\n",
		"level a 5 0 0 reject\nschema s a 1 user\nrule - - * * *\n",
		"level a 5 0 0 reject\nschema s a 10000 user\nrule * * * * *\n",
		"level a exempt\nlevel b 1 0 0 reject\nschema zz a 10000 space\nrule * - * * *\nschema b b 10000 none\nrule a b * c *\n",
		"schema exempt exempt 1 none\nschema catch-all catch-all 10000 none\nrule * - * * *\n",
	} {
		c, err := conf.Parse(text)
		if err != nil {
			t.Fatalf("%q: %v", text, err)
		}
		made, err := table.Make(c)
		if err != nil {
			t.Fatalf("%q: %v", text, err)
		}
		asked := []api.Request{{}, {Groups: []string{}}, {Groups: list("")}, {User: "*"}, {User: "\x00\xff", Groups: list("\n"), Space: " "}, {Groups: list("system:masters")}}
		for range 300 {
			asked = append(asked, r.request())
		}
		for _, q := range asked {
			first := firstOf(made.Config.Schemas, q)
			if first < 0 {
				t.Fatalf("%q: no schema speaks of %s", text, brief(q))
			}
			is(t, made, q, classOf(made.Config.Schemas[first], q))
		}
	}
}

// P16.2, P16.3: in a table that was made the rank tells who is first, and the name where ranks are the same.
func TestRanks(t *testing.T) {
	level := api.Level{Name: "l", Kind: api.Reject, Shares: 5}
	later, sooner := schema("a", api.ByUser, "u", "v"), schema("z", api.BySpace, "u", "w")
	later.Level, later.Rank, sooner.Level, sooner.Rank = "l", 9, "l", 8
	made, err := table.Make(api.Config{Levels: []api.Level{level}, Schemas: []api.Schema{later, sooner}})
	if err != nil {
		t.Fatal(err)
	}
	is(t, made, api.Request{User: "u", Space: "s"}, api.Class{Schema: "z", Level: "l", Key: "s", Flow: hashOf("z", "s")})
	is(t, made, api.Request{User: "v", Space: "s"}, api.Class{Schema: "a", Level: "l", Key: "v", Flow: hashOf("a", "v")})
	is(t, made, api.Request{User: "w"}, api.Class{Schema: "z", Level: "l", Flow: hashOf("z", "")})
	is(t, made, api.Request{User: "x", Space: "s"}, api.Class{Schema: "catch-all", Level: "catch-all", Key: "x", Flow: hashOf("catch-all", "x")})
	is(t, made, api.Request{User: "u", Groups: list("system:masters")}, api.Class{Schema: "exempt", Level: "exempt", Flow: hashOf("exempt", "")})
	sooner.Rank = 9
	if made, err = table.Make(api.Config{Levels: []api.Level{level}, Schemas: []api.Schema{sooner, later}}); err != nil {
		t.Fatal(err)
	}
	is(t, made, api.Request{User: "u", Space: "s"}, api.Class{Schema: "a", Level: "l", Key: "u", Flow: hashOf("a", "u")})
}

// roomy is a list with spare room that holds something.
func roomy[T any](spare T, l ...T) []T {
	return append(slices.Clone(l), spare, spare)[:len(l)]
}

func whole[T any](l []T) []T { return slices.Clone(l[:cap(l)]) }

// Rule 3: what is handed in stays as it was, its spare room, too.
func TestNothingIsChanged(t *testing.T) {
	rule := api.Rule{Users: roomy("spare", "z", "u"), Groups: roomy("spare", "h", "*", "g"), Verbs: roomy("spare", "*"), Resources: roomy("spare", "r", "q"), Spaces: roomy("spare", "t", "s")}
	rules := roomy(ofUsers("spare"), api.Rule{}, rule, ofUsers("v"))
	schemas := roomy(schema("spare", 1, "*"), schema("z", 1, "v"), api.Schema{Name: "y", Level: "l", Rank: 3, By: 1, Rules: rules}, schema("a", 2, "u"))
	levels := roomy(api.Level{Name: "spare"}, api.Level{Name: "z"}, api.Level{Name: "a"})
	of := api.Table{Config: api.Config{Total: 7, Period: 6, PerSeat: 5, Most: 4, Levels: levels, Schemas: schemas}, Digest: 9}
	q := api.Request{User: "u", Groups: roomy("spare", "k", "g", "a"), Verb: "v", Resource: "q", Space: "s", Objects: 5}
	seen := func() []any {
		told := []any{whole(of.Config.Schemas), whole(of.Config.Levels), whole(q.Groups), whole(rules)}
		for _, l := range [][]string{rule.Users, rule.Groups, rule.Verbs, rule.Resources, rule.Spaces} {
			told = append(told, whole(l))
		}
		return told
	}
	asGiven := seen()
	for range 3 {
		is(t, of, q, api.Class{Schema: "y", Level: "l", Key: "u", Flow: hashOf("y", "u")})
		none(t, of, api.Request{User: "nobody", Groups: q.Groups[:1]})
		flow.Key(api.ByUser, q)
	}
	if !reflect.DeepEqual(seen(), asGiven) {
		t.Errorf("%s was made of %s", brief(seen()), brief(asGiven))
	}
}

// Rule 3: what stands in spare room is none of the table, and none of the request.
func TestSpareRoom(t *testing.T) {
	of := tableOf(roomy(schema("spare", 1, "*"), schema("a", 1, "v"))...)
	none(t, of, api.Request{User: "u"})
	masters := list("x", "system:masters")
	made, err := table.Make(api.Config{})
	if err != nil {
		t.Fatal(err)
	}
	is(t, made, api.Request{Groups: masters[:1]}, api.Class{Schema: "catch-all", Level: "catch-all", Flow: hashOf("catch-all", "")})
}

// Rule 1: far more than a configuration may hold is answered, too.
func TestMany(t *testing.T) {
	schemas := make([]api.Schema, 50000)
	none(t, tableOf(schemas...), api.Request{User: "u"})
	schemas[len(schemas)-1] = schema("last", 1, "u")
	is(t, tableOf(schemas...), api.Request{User: "u"}, api.Class{Schema: "last", Level: "level-last", Key: "u", Flow: hashOf("last", "u")})
}
