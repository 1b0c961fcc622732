package width_test

import (
	"math"
	"math/big"
	"reflect"
	"slices"
	"strings"
	"testing"

	"usher/api"
	"usher/width"
)

// random are numbers, the same ones each time.
type random uint64

func (r *random) next() uint64 {
	x := uint64(*r)
	x ^= x << 13
	x ^= x >> 7
	x ^= x << 17
	*r = random(x)
	return x
}

func (r *random) below(n int) int { return int((r.next() >> 11) % uint64(n)) }

func pick[T any](r *random, of ...T) T { return of[r.below(len(of))] }

const seed = random(88172645463325252)

// verbs are those that the chapter names.
var verbs = [...]string{"list", "deletecollection", "create", "update", "patch", "delete"}

// others are texts that are none of them.
var others = [...]string{
	"", "get", "watch", "proxy", "connect", "*", "-", " ", "\x00", "\xff\xfe", "lists", "deletecollections", "listen",
	"LIST", "List", "lisT", "lis", "ist", "lost", " list", "list ", "list\n", "list\x00", "lis\u0074\u0301", "list,list",
	"Deletecollection", "deleteCollection", "deletecollectio", "delete collection", "deletecollectiom", "eletecollection",
	"Create", "creat", "creates", "Update", "updat", "updates", "Patch", "patc", "path", "Delete", "delet", "deletes", "deletec",
	strings.Repeat("list", 20000),
}

// spaces: without one, and with one of any bytes.
var spaces = [...]string{"", "ns", "*", "-", " ", "\x00", "\xff"}

// numbers are those about the edges, of any use.
var numbers = [...]int{
	math.MinInt, math.MinInt + 1, -1 << 32, -17, -16, -2, -1, 0, 1, 2, 3, 4, 5, 6, 7, 8, 9, 14, 15, 16, 17, 18, 29, 30, 31, 32, 33, 34,
	99, 100, 101, 199, 200, 201, 300, 301, api.MaxObjects - 1, api.MaxObjects, api.MaxObjects + 1, 1<<31 - 1, 1 << 31, 1<<32 + 1, 1 << 62,
	math.MaxInt / 2, math.MaxInt/2 + 1, math.MaxInt - 1, math.MaxInt,
}

// What follows is the chapter once more, by other means: numbers without an end, of which each is the least one that
// is enough.

func ceil(n, d *big.Int) *big.Int {
	up := new(big.Int).Sub(new(big.Int).Add(n, d), big.NewInt(1))
	return up.Div(up, d)
}

func greater(a, b *big.Int) *big.Int {
	if a.Cmp(b) > 0 {
		return a
	}
	return b
}

func wantList(per, objects *big.Int, space string) *big.Int {
	n := ceil(objects, per)
	if len(space) > 0 {
		n = ceil(n, big.NewInt(2))
	}
	return greater(n, big.NewInt(1))
}

func wantNumber(per *big.Int, q api.Request) *big.Int {
	objects := greater(big.NewInt(int64(q.Objects)), new(big.Int))
	if q.Verb == "list" {
		return wantList(per, objects, q.Space)
	}
	if q.Verb == "deletecollection" {
		return new(big.Int).Add(wantList(per, objects, q.Space), big.NewInt(1))
	}
	if slices.Contains([]string{"create", "update", "patch", "delete"}, q.Verb) && objects.Cmp(per) > 0 {
		return big.NewInt(2)
	}
	return big.NewInt(1)
}

func wantMost(most int) int {
	if most < 1 {
		return 1
	}
	if most > 16 {
		return 16
	}
	return most
}

func want(per, most int, q api.Request) int {
	n := wantNumber(greater(big.NewInt(int64(per)), big.NewInt(1)), q)
	if m := wantMost(most); n.Cmp(big.NewInt(int64(m))) > 0 {
		return m
	}
	return int(n.Int64())
}

// is: the request takes this many seats.
func is(t *testing.T, per, most int, q api.Request, want int) {
	t.Helper()
	if got := width.Seats(per, most, q); got != want {
		t.Errorf("Seats(%d, %d, %.40q in %.40q of %d) = %d, want %d", per, most, q.Verb, q.Space, q.Objects, got, want)
	}
}

func ask(verb, space string, objects int) api.Request {
	return api.Request{Verb: verb, Space: space, Objects: objects}
}

// P17.1: the chapter's examples.
func TestExamples(t *testing.T) {
	for _, c := range []struct {
		verb, space string
		want        int
	}{
		{"list", "", 3}, {"list", "ns", 2}, {"deletecollection", "", 4}, {"deletecollection", "ns", 3},
		{"patch", "", 2}, {"patch", "ns", 2}, {"get", "", 1}, {"get", "ns", 1},
	} {
		is(t, 100, 10, ask(c.verb, c.space, 250), c.want)
	}
}

// P17.1: a list at and about multiples of per, with a space and without one, and one more for deletecollection.
func TestLists(t *testing.T) {
	for _, c := range []struct {
		objects, all, inSpace int
	}{
		{math.MinInt, 1, 1}, {-101, 1, 1}, {-1, 1, 1}, {0, 1, 1}, {1, 1, 1}, {99, 1, 1}, {100, 1, 1},
		{101, 2, 1}, {199, 2, 1}, {200, 2, 1}, {201, 3, 2}, {300, 3, 2}, {301, 4, 2}, {400, 4, 2}, {401, 5, 3}, {500, 5, 3},
		{501, 6, 3}, {600, 6, 3}, {601, 7, 4}, {1000, 10, 5}, {1001, 11, 6}, {1300, 13, 7}, {1301, 14, 7}, {1400, 14, 7}, {1401, 15, 8},
	} {
		is(t, 100, 16, ask("list", "", c.objects), c.all)
		is(t, 100, 16, ask("deletecollection", "", c.objects), c.all+1)
		for _, space := range spaces[1:] {
			is(t, 100, 16, ask("list", space, c.objects), c.inSpace)
			is(t, 100, 16, ask("deletecollection", space, c.objects), c.inSpace+1)
		}
	}
}

// P17.1: it is rounded up twice, not once: three objects, two a seat, take two seats, and half of them is one.
func TestHalves(t *testing.T) {
	for n := 1; n <= 40; n++ {
		half := min((n+1)/2, 16)
		is(t, 1, 16, ask("list", "ns", n), half)
		is(t, 1, 16, ask("deletecollection", "ns", n), min(half+1, 16))
		is(t, 7, 16, ask("list", "ns", 7*n), half)
		is(t, 7, 16, ask("list", "ns", 7*n-6), half)
	}
	is(t, 2, 16, ask("list", "ns", 3), 1)
	is(t, 2, 16, ask("list", "ns", 5), 2)
	// Half of the number, not of most: twice as many as most are enough for most.
	is(t, 1, 10, ask("list", "ns", 11), 6)
	is(t, 1, 10, ask("list", "ns", 18), 9)
	is(t, 1, 10, ask("list", "ns", 19), 10)
	is(t, 1, 10, ask("list", "ns", 20), 10)
	is(t, 1, 10, ask("deletecollection", "ns", 16), 9)
	is(t, 1, 10, ask("deletecollection", "ns", 17), 10)
	is(t, 1, 10, ask("deletecollection", "ns", 99), 10)
}

// P17.1: create, update, patch and delete, whatever the space.
func TestWrites(t *testing.T) {
	for _, verb := range []string{"create", "update", "patch", "delete"} {
		for _, space := range spaces {
			for _, c := range []struct{ per, objects, want int }{
				{100, 0, 1}, {100, 1, 1}, {100, 99, 1}, {100, 100, 1}, {100, 101, 2}, {100, 250, 2}, {100, 100000, 2}, {100, -1, 1}, {100, -101, 1},
				{100, math.MaxInt, 2}, {100, math.MinInt, 1}, {1, 0, 1}, {1, 1, 1}, {1, 2, 2}, {0, 1, 1}, {0, 2, 2}, {-1, 0, 1}, {-1, 1, 1}, {-1, 2, 2},
				{-5, -3, 1}, {-5, 1, 1}, {math.MinInt, 0, 1}, {math.MinInt, 1, 1}, {math.MinInt, 2, 2}, {math.MinInt, -1, 1},
				{math.MaxInt, math.MaxInt, 1}, {math.MaxInt - 1, math.MaxInt, 2}, {math.MaxInt, math.MaxInt - 1, 1}, {math.MaxInt, math.MinInt, 1},
			} {
				q := ask(verb, space, c.objects)
				is(t, c.per, 16, q, c.want)
				is(t, c.per, 2, q, c.want)
				is(t, c.per, 1, q, 1)
				is(t, c.per, 0, q, 1)
			}
		}
	}
}

// P17.1: any other verb takes one, also one that differs by a letter or a capital only.
func TestOtherVerbs(t *testing.T) {
	for _, verb := range others {
		for _, space := range []string{"", "ns"} {
			for _, n := range numbers {
				is(t, 1, 16, ask(verb, space, n), 1)
				is(t, n, 16, ask(verb, space, 1000), 1)
			}
		}
	}
	for _, verb := range verbs {
		for i := range len(verb) {
			is(t, 1, 16, ask(verb[:i], "", 1000), map[bool]int{true: 2, false: 1}[verb[:i] == "delete"])
			is(t, 1, 16, ask(verb[:i]+strings.ToUpper(verb[i:i+1])+verb[i+1:], "", 1000), 1)
			is(t, 1, 16, ask(verb[:i]+"x"+verb[i+1:], "", 1000), 1)
			is(t, 1, 16, ask(verb[:i]+"x"+verb[i:], "", 1000), 1)
		}
	}
}

// P17.1: per below 1 is 1.
func TestPer(t *testing.T) {
	for _, per := range []int{math.MinInt, math.MinInt + 1, -100, -2, -1, 0, 1} {
		is(t, per, 16, ask("list", "", 0), 1)
		is(t, per, 16, ask("list", "", 1), 1)
		is(t, per, 16, ask("list", "", 2), 2)
		is(t, per, 16, ask("list", "", 9), 9)
		is(t, per, 16, ask("list", "ns", 9), 5)
		is(t, per, 16, ask("list", "", -9), 1)
		is(t, per, 16, ask("deletecollection", "", 9), 10)
		is(t, per, 16, ask("deletecollection", "ns", 9), 6)
	}
	is(t, 2, 16, ask("list", "", 9), 5)
	for _, verb := range verbs[:2] {
		more := map[string]int{"deletecollection": 1}[verb]
		is(t, math.MaxInt, 16, ask(verb, "", math.MaxInt), 1+more)
		is(t, math.MaxInt-1, 16, ask(verb, "", math.MaxInt), 2+more)
		is(t, math.MaxInt-1, 16, ask(verb, "ns", math.MaxInt), 1+more)
		is(t, math.MaxInt, 16, ask(verb, "", 1), 1+more)
		is(t, math.MaxInt, 16, ask(verb, "", 0), 1+more)
		is(t, math.MaxInt/3, 16, ask(verb, "", math.MaxInt), 4+more)
		is(t, math.MaxInt/3, 16, ask(verb, "ns", math.MaxInt), 2+more)
		is(t, math.MaxInt/2, 16, ask(verb, "ns", math.MaxInt), 2+more)
	}
}

// P17.1: most below 1 is 1, and above MaxWidth is MaxWidth.
func TestMost(t *testing.T) {
	for _, c := range []struct{ most, want int }{
		{math.MinInt, 1}, {math.MinInt + 1, 1}, {-16, 1}, {-1, 1}, {0, 1}, {1, 1}, {2, 2}, {3, 3}, {10, 10}, {15, 15},
		{16, 16}, {17, 16}, {18, 16}, {99, 16}, {1 << 32, 16}, {1<<32 + 1, 16}, {math.MaxInt - 1, 16}, {math.MaxInt, 16},
	} {
		for _, objects := range []int{1000, api.MaxObjects, math.MaxInt/2 + 1, math.MaxInt - 1, math.MaxInt} {
			for _, space := range spaces {
				// Nobody takes more than most, the seat more of deletecollection among them.
				is(t, 1, c.most, ask("list", space, objects), c.want)
				is(t, 1, c.most, ask("deletecollection", space, objects), c.want)
				is(t, 1, c.most, ask("patch", space, objects), min(c.want, 2))
				is(t, 1, c.most, ask("get", space, objects), 1)
			}
		}
		for n := range 20 {
			is(t, 1, c.most, ask("list", "", n), min(max(n, 1), c.want))
			is(t, 1, c.most, ask("deletecollection", "", n), min(max(n, 1)+1, c.want))
		}
	}
}

// P17.1: a space is what is not empty; nothing else of a request matters.
func TestRestOfTheRequest(t *testing.T) {
	for _, verb := range append(verbs[:], others[:]...) {
		for _, space := range spaces {
			q := ask(verb, space, 250)
			n := want(100, 10, q)
			is(t, 100, 10, q, n)
			for _, text := range []string{"", "list", "deletecollection", "patch", "ns", "\x00\xff"} {
				is(t, 100, 10, api.Request{User: text, Groups: []string{text, "g"}, Verb: verb, Resource: text, Space: space, Objects: 250}, n)
			}
		}
	}
}

// P17.1, P17.2: each verb at all numbers about the edges.
func TestAtTheEdges(t *testing.T) {
	for _, verb := range append(verbs[:], "", "get", "List") {
		for _, space := range []string{"", "ns"} {
			for _, objects := range numbers {
				for _, per := range numbers {
					for _, most := range numbers {
						q := ask(verb, space, objects)
						is(t, per, most, q, want(per, most, q))
						if n := width.Seats(per, most, q); n < 1 || n > wantMost(most) {
							t.Errorf("%d seats, %d at the most", n, most)
						}
					}
				}
				if t.Failed() {
					t.FailNow()
				}
			}
		}
	}
}

// number is small, about an edge, or any int.
func (r *random) number() int {
	switch r.below(4) {
	case 0:
		return r.below(40) - 4
	case 1:
		return r.below(3000)
	case 2:
		return pick(r, numbers[:]...)
	}
	return int(r.next())
}

func (r *random) request() api.Request {
	verb := pick(r, verbs[:]...)
	if r.below(8) == 0 {
		verb = pick(r, others[:]...)
	}
	return ask(verb, pick(r, "", "", "ns", "*"), r.number())
}

// P17.1, P17.2: many inputs, held against the chapter said in another way.
func TestAgainstTheChapter(t *testing.T) {
	r, met := seed, [api.MaxWidth + 1]int{}
	for range 100000 {
		per, most, q := r.number(), r.number(), r.request()
		n := want(per, most, q)
		is(t, per, most, q, n)
		if t.Failed() {
			t.FailNow()
		}
		met[n]++
	}
	for n := 1; n <= api.MaxWidth; n++ {
		if met[n] < 100 {
			t.Errorf("%d seats only %d times: too few", n, met[n])
		}
	}
}

// P17.2: more objects, fewer for a seat and more at the most take no fewer, one by one and all at once.
func TestNoFewer(t *testing.T) {
	r := seed
	for range 100000 {
		per, most, q := r.number(), r.number(), r.request()
		morePer, moreMost, more := r.number(), r.number(), q
		more.Objects = r.number()
		per, morePer = max(per, morePer), min(per, morePer)
		most, moreMost = min(most, moreMost), max(most, moreMost)
		q.Objects, more.Objects = min(q.Objects, more.Objects), max(q.Objects, more.Objects)
		n := width.Seats(per, most, q)
		for _, other := range []int{width.Seats(morePer, most, q), width.Seats(per, moreMost, q), width.Seats(per, most, more), width.Seats(morePer, moreMost, more)} {
			if n < 1 || n > wantMost(most) || other < n {
				t.Fatalf("%d seats at per %d, most %d, %+.100v; %d at per %d, most %d, %d objects", n, per, most, q, other, morePer, moreMost, more.Objects)
			}
		}
	}
}

// P17.2: step by step, each step the least one.
func TestNoFewerStepByStep(t *testing.T) {
	for _, verb := range append(verbs[:], "get") {
		for _, space := range []string{"", "ns"} {
			for per := -1; per <= 24; per++ {
				for most := -1; most <= 18; most++ {
					for objects := -1; objects <= 80; objects++ {
						q := ask(verb, space, objects)
						n := width.Seats(per, most, q)
						if width.Seats(per-1, most, q) < n || width.Seats(per, most+1, q) < n || width.Seats(per, most, ask(verb, space, objects+1)) < n {
							t.Fatalf("a step on from per %d, most %d, %q in %q of %d there are fewer than %d", per, most, verb, space, objects, n)
						}
					}
				}
			}
		}
	}
}

// Rule 3: what is handed in stays as it was, its spare room, too; rule 4: and the answer is the same again.
func TestNothingIsChanged(t *testing.T) {
	for _, verb := range append(verbs[:], others[:]...) {
		groups := []string{"z", "a", "m", "spare"}
		q := api.Request{User: "u", Groups: groups[:3], Verb: verb, Resource: "pods", Space: "ns", Objects: -7}
		asked := q
		first := width.Seats(-1, 99, asked)
		for range 3 {
			is(t, -1, 99, asked, first)
		}
		if !reflect.DeepEqual(asked, q) || !slices.Equal(groups, []string{"z", "a", "m", "spare"}) {
			t.Errorf("%+v was made of %+v, %q", asked, q, groups)
		}
	}
}
