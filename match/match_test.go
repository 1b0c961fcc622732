package match_test

import (
	"reflect"
	"slices"
	"strings"
	"testing"

	"usher/api"
	"usher/match"
)

// random are numbers, the same ones each time.
type random uint64

func (r *random) next() uint64 {
	x := uint64(*r)
	x ^= x << 13
	x ^= x >> 7
	x ^= x << 17
	*r = random(x)
	return x
}

func (r *random) below(n int) int { return int((r.next() >> 11) % uint64(n)) }

// one in n times.
func (r *random) one(n int) bool { return r.below(n) == 0 }

func shuffled[T any](r *random, l []T) []T {
	l = slices.Clone(l)
	for i := range l {
		j := r.below(i + 1)
		l[i], l[j] = l[j], l[i]
	}
	return l
}

const seed = random(88172645463325252)

var all = []string{"*"}

func list(texts ...string) []string { return texts }

// What follows is the chapter once more, by other means: counts, and every line of the sentence by itself.

func wantHas(l []string, w string) bool {
	times, stars := 0, 0
	for i := range l {
		if strings.Compare(l[i], w) == 0 {
			times++
		}
		if l[i] == "*" {
			stars++
		}
	}
	return times > 0 || stars == 1 && len(l) == 1
}

func wantRule(r api.Rule, q api.Request) bool {
	who := 0
	if wantHas(r.Users, q.User) {
		who++
	}
	for _, g := range q.Groups {
		if wantHas(r.Groups, g) {
			who++
		}
	}
	if who == 0 {
		return false
	}
	if !wantHas(r.Verbs, q.Verb) {
		return false
	}
	if !wantHas(r.Resources, q.Resource) {
		return false
	}
	return wantHas(r.Spaces, q.Space)
}

func wantSchema(s api.Schema, q api.Request) bool {
	speaks := 0
	for _, r := range s.Rules {
		if wantRule(r, q) {
			speaks++
		}
	}
	return speaks > 0
}

func has(t *testing.T, l []string, w string, want bool) {
	t.Helper()
	if got := match.Has(l, w); got != want {
		t.Errorf("Has(%q, %q) = %t, want %t", l, w, got, want)
	}
}

// speaks: the rule does, or doesn't, by itself and as the one rule of a schema.
func speaks(t *testing.T, r api.Rule, q api.Request, want bool) {
	t.Helper()
	if got := match.Rule(r, q); got != want {
		t.Errorf("Rule(%q, %+v) = %t, want %t", r, q, got, want)
	}
	schema(t, []api.Rule{r}, q, want)
}

func schema(t *testing.T, rules []api.Rule, q api.Request, want bool) {
	t.Helper()
	if got := match.Schema(api.Schema{Name: "s", Level: "l", Rank: 1, Rules: rules}, q); got != want {
		t.Errorf("Schema of the rules %q, %+v = %t, want %t", rules, q, got, want)
	}
}

// orders goes through all orders of a list.
func orders[T any](l []T, see func(l []T)) {
	if len(l) == 0 {
		see(nil)
		return
	}
	for i := range l {
		rest := append(slices.Clone(l[:i]), l[i+1:]...)
		orders(rest, func(behind []T) { see(append([]T{l[i]}, behind...)) })
	}
}

// P15.1: the texts of a list, and no others, whatever bytes they are of.
func TestHasOneOfThem(t *testing.T) {
	for _, c := range []struct {
		l    []string
		w    string
		want bool
	}{
		{list("a"), "a", true},
		{list("a"), "b", false},
		{list("a", "b", "c"), "a", true},
		{list("a", "b", "c"), "b", true},
		{list("a", "b", "c"), "c", true},
		{list("a", "b", "c"), "d", false},
		{list("a", "a"), "a", true},
		{list("a", "a"), "b", false},
		{list("ab"), "a", false},
		{list("ab"), "b", false},
		{list("a"), "ab", false},
		{list("a", "b"), "ab", false},
		{list("a,b"), "a", false},
		{list("a"), "A", false},
		{list("A"), "a", false},
		{list(" a"), "a", false},
		{list("a"), "a ", false},
		{list("-"), "a", false},
		{list("-"), "-", true},
		{list("-"), "", false},
		{list("a\x00"), "a", false},
		{list("\xff"), "\xfe", false},
		{list("\xff"), "\ufffd", false},
		{list("\xff"), "\xff", true},
		{list("é"), "e\u0301", false},
		{list("é"), "é", true},
	} {
		has(t, c.l, c.w, c.want)
	}
	long := strings.Repeat("x", 100000)
	has(t, list(long+"a"), long+"a", true)
	has(t, list(long+"a"), long+"b", false)
	has(t, list(long+"a"), long, false)
}

// P15.1: * means all as the one text of its list alone.
func TestHasStar(t *testing.T) {
	for _, w := range list("a", "b", "", "*", "**", "-", "system:masters", "\x00", "\xff", strings.Repeat("x", 100000)) {
		has(t, all, w, true)
		has(t, list("*", "a"), w, w == "*" || w == "a")
		has(t, list("a", "*"), w, w == "*" || w == "a")
		has(t, list("a", "*", "b"), w, w == "*" || w == "a" || w == "b")
		has(t, list("*", ""), w, w == "*" || w == "")
		has(t, list("*", "*"), w, w == "*")
		has(t, list("**"), w, w == "**")
		has(t, list("a*"), w, false)
		has(t, list("*a"), w, false)
		has(t, list("* "), w, false)
		has(t, list("a"), w, w == "a")
	}
	has(t, list("a*"), "a*", true)
	has(t, list("a*"), "ab", false)
}

// P15.1: no list and a list of no texts have nothing, the empty text neither; a list that has it holds it.
func TestHasNothing(t *testing.T) {
	for _, w := range list("a", "", "*", "-") {
		has(t, nil, w, false)
		has(t, []string{}, w, false)
		has(t, all[:0], w, false)
		has(t, list(""), w, w == "")
		has(t, list("a", ""), w, w == "a" || w == "")
		has(t, list("", "a"), w, w == "a" || w == "")
	}
}

// P15.1: what stands in a list's spare room is none of it.
func TestHasSpareRoom(t *testing.T) {
	l := list("*", "a", "b")
	has(t, l[:1], "c", true)
	has(t, l[1:2], "b", false)
	has(t, l[1:2], "*", false)
	has(t, l[:2], "b", false)
	has(t, l[:0], "*", false)
}

// P15.1: the chapter's examples.
func TestExamples(t *testing.T) {
	for _, none := range [][]string{nil, {}} {
		a := api.Rule{Users: list("a"), Groups: none, Verbs: all, Resources: all, Spaces: all}
		for _, q := range []api.Request{
			{User: "a"},
			{User: "a", Groups: none},
			{User: "a", Groups: list("b"), Verb: "get", Resource: "pods", Space: "ns", Objects: 7},
		} {
			speaks(t, a, q, true)
			q.User = "b"
			speaks(t, a, q, false)
			q.User, q.Groups = "", list("a")
			speaks(t, a, q, false)
			q.User = "*"
			speaks(t, a, q, false)
		}
		grouped := api.Rule{Users: none, Groups: all, Verbs: all, Resources: all, Spaces: all}
		for _, user := range list("a", "", "*") {
			speaks(t, grouped, api.Request{User: user, Groups: list("x")}, true)
			speaks(t, grouped, api.Request{User: user, Groups: list("")}, true)
			speaks(t, grouped, api.Request{User: user, Groups: list("x", "y", "z")}, true)
			speaks(t, grouped, api.Request{User: user, Groups: none}, false)
		}
	}
}

// P15.1: groups: none of the request's, one, and many.
func TestGroups(t *testing.T) {
	many := list("g1", "g2", "g3", "g4", "g5", "g6", "g7", "g8", "g9")
	for _, c := range []struct {
		groups, of []string
		want       bool
	}{
		{all, nil, false},
		{all, []string{}, false},
		{all, list("g"), true},
		{all, list("*"), true},
		{all, many, true},
		{list("g"), nil, false},
		{list("g"), list("g"), true},
		{list("g"), list("h"), false},
		{list("g"), list("*"), false},
		{list("g"), list(""), false},
		{list("g9"), many, true},
		{list("g1"), many, true},
		{list("g5"), many, true},
		{list("g0"), many, false},
		{list("x", "y", "g9"), many, true},
		{list("x", "y", "z"), many, false},
		{list("*", "x"), many, false},
		{list("x", "*"), list("y", "x"), true},
		{list("x", "*"), list("y", "*"), true},
		{list(""), nil, false},
		{list(""), list("a", ""), true},
		{nil, many, false},
		{nil, list(""), false},
		{nil, nil, false},
		{[]string{}, list("*"), false},
	} {
		r := api.Rule{Groups: c.groups, Verbs: all, Resources: all, Spaces: all}
		speaks(t, r, api.Request{User: "u", Groups: c.of}, c.want)
		// No group is a user, and no user a group.
		speaks(t, r, api.Request{User: "g", Groups: c.of}, c.want)
		r.Users = list("v")
		speaks(t, r, api.Request{User: "u", Groups: c.of}, c.want)
		speaks(t, r, api.Request{User: "v", Groups: c.of}, true)
		r.Users = all
		speaks(t, r, api.Request{User: "u", Groups: c.of}, true)
		r.Users = list("*", "v")
		speaks(t, r, api.Request{User: "u", Groups: c.of}, c.want)
	}
}

func lists(r *api.Rule) []*[]string {
	return []*[]string{&r.Users, &r.Groups, &r.Verbs, &r.Resources, &r.Spaces}
}

// copyRule shares nothing with the rule.
func copyRule(r api.Rule) api.Rule {
	for _, l := range lists(&r) {
		*l = slices.Clone(*l)
	}
	return r
}

// P15.1: each list is asked for a thing of its own, and one that has it not is enough.
func TestEachListAlone(t *testing.T) {
	q := api.Request{User: "u", Groups: list("f", "g"), Verb: "v", Resource: "r", Space: "s"}
	full := api.Rule{Users: list("u"), Groups: list("g"), Verbs: list("v"), Resources: list("r"), Spaces: list("s")}
	speaks(t, full, q, true)
	others := [][]string{nil, {}, {""}, {"x"}, {"*", "x"}, {"x", "*"}, {"x", "y", "z"}, {"*", "*"}}
	for place := range lists(&full) {
		isWho := place < 2
		for _, l := range others {
			r := copyRule(full)
			*lists(&r)[place] = l
			speaks(t, r, q, isWho)
			for _, o := range lists(&r) {
				if o != lists(&r)[place] {
					*o = all
				}
			}
			speaks(t, r, q, isWho)
		}
		r := copyRule(full)
		*lists(&r)[place] = all
		speaks(t, r, q, true)
	}
	neither := copyRule(full)
	neither.Users, neither.Groups = list("g", "f", "v"), list("u", "v")
	speaks(t, neither, q, false)
	swapped := full
	swapped.Verbs, swapped.Resources = full.Resources, full.Verbs
	speaks(t, swapped, q, false)
	swapped = full
	swapped.Resources, swapped.Spaces = full.Spaces, full.Resources
	speaks(t, swapped, q, false)
	swapped = full
	swapped.Verbs, swapped.Spaces = full.Spaces, full.Verbs
	speaks(t, swapped, q, false)
}

// P15.1: a request that lacks a thing has the empty text there.
func TestEmptyTexts(t *testing.T) {
	ofAll := api.Rule{Users: all, Verbs: all, Resources: all, Spaces: all}
	speaks(t, ofAll, api.Request{}, true)
	speaks(t, api.Rule{}, api.Request{}, false)
	speaks(t, api.Rule{}, api.Request{User: "u", Groups: list("g"), Verb: "v", Resource: "r", Space: "s"}, false)
	empty := list("")
	speaks(t, api.Rule{Users: empty, Verbs: empty, Resources: empty, Spaces: empty}, api.Request{}, true)
	speaks(t, api.Rule{Groups: empty, Verbs: empty, Resources: empty, Spaces: empty}, api.Request{}, false)
	spaces := ofAll
	spaces.Spaces = list("ns")
	speaks(t, spaces, api.Request{Space: "ns"}, true)
	speaks(t, spaces, api.Request{Space: "*"}, false)
	speaks(t, spaces, api.Request{}, false)
	spaces.Spaces = list("ns", "")
	speaks(t, spaces, api.Request{}, true)
}

// P15.1: how many objects a request is for does not matter.
func TestObjects(t *testing.T) {
	r := api.Rule{Users: list("u"), Verbs: all, Resources: all, Spaces: all}
	for _, n := range []int{-1, 0, 1, api.MaxObjects, api.MaxObjects + 1, -1 << 62} {
		speaks(t, r, api.Request{User: "u", Objects: n}, true)
		speaks(t, r, api.Request{User: "v", Objects: n}, false)
	}
}

func ofUser(name string) api.Rule {
	return api.Rule{Users: list(name), Verbs: all, Resources: all, Spaces: all}
}

// P15.1, P15.2: no rules, one, and many; any one that speaks is enough, wherever it stands.
func TestSchemas(t *testing.T) {
	q := api.Request{User: "u", Groups: list("g"), Verb: "get", Resource: "pods"}
	schema(t, nil, q, false)
	schema(t, []api.Rule{}, q, false)
	schema(t, []api.Rule{{}}, q, false)
	schema(t, []api.Rule{ofUser("u")}, q, true)
	schema(t, []api.Rule{ofUser("v")}, q, false)
	for many := 1; many <= 20; many++ {
		rules := make([]api.Rule, many)
		for i := range rules {
			rules[i] = ofUser("v")
		}
		schema(t, rules, q, false)
		for i := range rules {
			rules[i] = ofUser("u")
			schema(t, rules, q, true)
			rules[i] = ofUser("v")
		}
		rules[many-1] = ofUser("u")
		schema(t, rules[:many-1], q, false)
	}
	orders([]api.Rule{{}, ofUser("u"), ofUser("v"), ofUser("w")}, func(l []api.Rule) { schema(t, l, q, true) })
	orders([]api.Rule{{}, ofUser("x"), ofUser("v"), ofUser("w")}, func(l []api.Rule) { schema(t, l, q, false) })
	// Two rules that each lack something make none that has it all.
	get, pods := ofUser("u"), ofUser("u")
	get.Resources, pods.Verbs = list("x"), list("x")
	schema(t, []api.Rule{get, pods}, q, false)
}

// P15.1: a schema's name, level, rank and By do not matter.
func TestSchemaByItsRulesAlone(t *testing.T) {
	for _, s := range []api.Schema{
		{},
		{Name: "u", Level: "u", Rank: -1, By: -1},
		{Name: "exempt", Level: "exempt", Rank: 1, By: api.ByNone},
		{Name: "catch-all", Level: "catch-all", Rank: 10000, By: api.ByUser},
		{Name: "s", Level: "none", Rank: 1 << 40, By: api.BySpace},
	} {
		q := api.Request{User: "u"}
		if match.Schema(s, q) {
			t.Errorf("%+v without rules speaks of somebody", s)
		}
		s.Rules = []api.Rule{ofUser("u")}
		if !match.Schema(s, q) {
			t.Errorf("%+v does not speak of %+v", s, q)
		}
	}
}

// P15.2: in every order of its texts a list has the same.
func TestOrders(t *testing.T) {
	for _, l := range [][]string{{"a", "b", "c", "d", "e"}, {"*", "a", "b", ""}, {"a", "a", "*"}, {"*"}, {}} {
		for _, w := range list("a", "b", "c", "e", "", "*", "x") {
			want := wantHas(l, w)
			orders(l, func(l []string) { has(t, l, w, want) })
		}
	}
	groups := list("f", "g", "h", "")
	r := api.Rule{Groups: list("x", "g", "y"), Verbs: all, Resources: all, Spaces: all}
	orders(groups, func(l []string) { speaks(t, r, api.Request{Groups: l}, true) })
	orders(r.Groups, func(l []string) {
		r := r
		r.Groups = l
		speaks(t, r, api.Request{Groups: groups}, true)
		speaks(t, r, api.Request{Groups: list("f", "h", "")}, false)
	})
}

// texts of rules and requests that meet often enough.
var texts = [...]string{"a", "b", "c", "*", "", "-"}

func (r *random) text() string { return texts[r.below(len(texts))] }

func (r *random) list(most int) []string {
	if r.one(3) {
		return all
	}
	l := make([]string, r.below(most+1))
	for i := range l {
		l[i] = r.text()
	}
	return l
}

func (r *random) rule() api.Rule {
	return api.Rule{Users: r.list(3), Groups: r.list(3), Verbs: r.list(4), Resources: r.list(4), Spaces: r.list(4)}
}

func (r *random) rules(most int) []api.Rule {
	l := make([]api.Rule, r.below(most+1))
	for i := range l {
		l[i] = r.rule()
	}
	return l
}

func (r *random) request() api.Request {
	return api.Request{User: r.text(), Groups: r.list(3), Verb: r.text(), Resource: r.text(), Space: r.text(), Objects: r.below(9)}
}

// more is a list that has all that l has, and often more.
func (r *random) more(l []string) []string {
	if r.one(4) {
		return all
	}
	if len(l) == 1 && l[0] == "*" {
		return l
	}
	return shuffled(r, append(slices.Clone(l), r.text(), r.text()))
}

// P15.1: many rules and requests, held against the chapter said in another way.
func TestAgainstTheChapter(t *testing.T) {
	r, met := seed, [2]int{}
	for range 20000 {
		l, w := r.list(4), r.text()
		has(t, l, w, wantHas(l, w))
		rules, q := r.rules(4), r.request()
		for _, rule := range rules {
			speaks(t, rule, q, wantRule(rule, q))
		}
		want := wantSchema(api.Schema{Rules: rules}, q)
		schema(t, rules, q, want)
		if want {
			met[1]++
		} else {
			met[0]++
		}
		if t.Failed() {
			t.FailNow()
		}
	}
	if met[0] < 1000 || met[1] < 1000 {
		t.Errorf("%d met nobody, %d met somebody: too few of one kind", met[0], met[1])
	}
}

// P15.2: with more in its lists a rule speaks of no fewer, with more rules a schema; in another order of the same.
func TestMore(t *testing.T) {
	r := seed
	for range 20000 {
		rule, q := r.rule(), r.request()
		spoke := match.Rule(rule, q)
		same, more := copyRule(rule), copyRule(rule)
		for i, l := range lists(&same) {
			*l = shuffled(&r, *l)
			if r.one(2) {
				wider := lists(&more)[i]
				*wider = r.more(*wider)
			}
		}
		speaks(t, same, q, spoke)
		turned := q
		turned.Groups = shuffled(&r, q.Groups)
		speaks(t, rule, turned, spoke)
		if spoke {
			speaks(t, more, q, true)
		}
		rules := r.rules(4)
		spoke = match.Schema(api.Schema{Rules: rules}, q)
		schema(t, shuffled(&r, rules), q, spoke)
		if spoke {
			schema(t, shuffled(&r, append(slices.Clone(rules), r.rules(4)...)), q, true)
		}
		if t.Failed() {
			t.FailNow()
		}
	}
}

// P15.2: * beside another text has less than * alone: more texts are not always a list that has more.
func TestMoreTextsThatHaveLess(t *testing.T) {
	r := ofUser("*")
	speaks(t, r, api.Request{User: "u"}, true)
	r.Users = list("*", "a")
	speaks(t, r, api.Request{User: "u"}, false)
	speaks(t, r, api.Request{User: "a"}, true)
	r.Users = list("*", "a", "u")
	speaks(t, r, api.Request{User: "u"}, true)
}

// roomy is a list with spare room that holds something.
func roomy(texts ...string) []string {
	l := append(slices.Clone(texts), "spare", "room")
	return l[:len(texts)]
}

func whole(l []string) []string { return slices.Clone(l[:cap(l)]) }

// Rule 3: what is handed in stays as it was, its spare room, too.
func TestNothingIsChanged(t *testing.T) {
	l := roomy("b", "*", "a", "b", "")
	before := whole(l)
	for _, w := range list("a", "b", "", "*", "x") {
		match.Has(l, w)
	}
	if !reflect.DeepEqual(whole(l), before) {
		t.Errorf("Has made %q of %q", whole(l), before)
	}
	rule := api.Rule{Users: roomy("z", "y"), Groups: roomy("h", "*", "g"), Verbs: roomy("*"), Resources: roomy("r", "q"), Spaces: roomy("t", "s")}
	s := api.Schema{Name: "s", Level: "l", Rank: 3, By: 1, Rules: []api.Rule{{}, rule, ofUser("v")}}
	q := api.Request{User: "u", Groups: roomy("k", "g", "a"), Verb: "v", Resource: "q", Space: "s", Objects: 5}
	seen := func() [][]string {
		told := [][]string{whole(q.Groups)}
		for i := range s.Rules {
			for _, l := range lists(&s.Rules[i]) {
				told = append(told, whole(*l))
			}
		}
		return told
	}
	asGiven := seen()
	for range 3 {
		if !match.Rule(rule, q) || !match.Schema(s, q) {
			t.Errorf("%q does not speak of %+v", rule, q)
		}
		other := q
		other.Space = "x"
		if match.Rule(rule, other) || match.Schema(s, other) {
			t.Errorf("%q speaks of %+v", rule, other)
		}
	}
	if !reflect.DeepEqual(seen(), asGiven) {
		t.Errorf("%q was made of %q", seen(), asGiven)
	}
}

// Rule 1: far more than a configuration may hold is answered, too.
func TestMany(t *testing.T) {
	names := make([]string, 3000)
	for i := range names {
		names[i] = strings.Repeat("n", i)
	}
	r := api.Rule{Groups: names[:2999], Verbs: names, Resources: names, Spaces: names}
	q := api.Request{Groups: list(names[2999], "x", names[2998]), Verb: names[2999], Resource: names[1], Space: ""}
	speaks(t, r, q, true)
	q.Groups = q.Groups[:2]
	speaks(t, r, q, false)
	rules := make([]api.Rule, 3000)
	schema(t, rules, q, false)
	schema(t, append(rules, ofUser("")), q, true)
}
