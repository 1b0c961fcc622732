package heap_test

import (
	"math"
	"slices"
	"sort"
	"testing"

	"usher/api"
	"usher/heap"
)

// random are numbers below a bound, the same ones each time.
type random uint64

func (r *random) below(n int) int {
	x := uint64(*r)
	x ^= x << 13
	x ^= x >> 7
	x ^= x << 17
	*r = random(x)
	return int((x >> 11) % uint64(n))
}

const seed = random(88172645463325252)

// model is what a heap is held against: keys by their ids, put in order each time anew.
type model map[int]uint64

func (m model) list() []api.Item {
	var list []api.Item
	for id, key := range m {
		list = append(list, api.Item{Key: key, ID: id})
	}
	sort.Slice(list, func(a, b int) bool {
		if list[a].Key != list[b].Key {
			return list[a].Key < list[b].Key
		}
		return list[a].ID < list[b].ID
	})
	return list
}

func modelOf(list []api.Item) model {
	m := model{}
	for _, x := range list {
		m[x.ID] = x.Key
	}
	return m
}

// with is a heap into which a list was pushed.
func with(t *testing.T, list ...api.Item) *heap.Heap {
	t.Helper()
	h := heap.New()
	for _, x := range list {
		if e := h.Push(x); e != api.OK {
			t.Fatalf("Push(%v) behind %v: error %d", x, h.List(), e)
		}
	}
	return h
}

// row is items of the ids 1, 2, .. with these keys.
func row(keys ...uint64) []api.Item {
	var list []api.Item
	for i, key := range keys {
		list = append(list, api.Item{Key: key, ID: i + 1})
	}
	return list
}

// upTo is n items: the id i has the key that f says.
func upTo(n int, f func(i int) int) []api.Item {
	var list []api.Item
	for i := range n {
		list = append(list, api.Item{Key: uint64(f(i)), ID: i})
	}
	return list
}

// checkHolds looks at a heap by all that changes nothing.
func checkHolds(t *testing.T, name string, h *heap.Heap, want []api.Item) {
	t.Helper()
	if got := h.Len(); got != len(want) {
		t.Fatalf("%s: Len = %d, not %d", name, got, len(want))
	}
	if got := h.List(); !slices.Equal(got, want) {
		t.Fatalf("%s: List = %v, not %v", name, got, want)
	}
	for _, x := range want {
		if got, ok := h.Get(x.ID); !ok || got != x {
			t.Fatalf("%s: Get(%d) = %v, %v, not %v", name, x.ID, got, ok, x)
		}
	}
	checkFirst(t, name, h, want)
}

// checkFirst looks at what Peek says.
func checkFirst(t *testing.T, name string, h *heap.Heap, want []api.Item) {
	t.Helper()
	got, ok := h.Peek()
	if len(want) == 0 && (ok || got != api.Item{}) {
		t.Fatalf("%s: Peek = %v, %v where there is nothing", name, got, ok)
	}
	if len(want) > 0 && (!ok || got != want[0]) {
		t.Fatalf("%s: Peek = %v, %v, not %v", name, got, ok, want[0])
	}
}

// checkComesOut pops all, and looks at the order in which it comes.
func checkComesOut(t *testing.T, name string, h *heap.Heap, want []api.Item) {
	t.Helper()
	for i, x := range want {
		checkFirst(t, name, h, want[i:])
		if got, ok := h.Pop(); !ok || got != x {
			t.Fatalf("%s: Pop = %v, %v, not %v (the rest of %v)", name, got, ok, x, want[i:])
		}
		if got, ok := h.Get(x.ID); ok || got != (api.Item{}) {
			t.Fatalf("%s: Get(%d) = %v, %v behind its Pop", name, x.ID, got, ok)
		}
	}
	if got, ok := h.Pop(); ok || got != (api.Item{}) {
		t.Fatalf("%s: Pop = %v, %v where there is nothing", name, got, ok)
	}
	checkHolds(t, name, h, nil)
}

func checkErrno(t *testing.T, name string, got, want api.Errno) {
	t.Helper()
	if got != want {
		t.Fatalf("%s: error %d, not %d", name, got, want)
	}
}

// orders calls f with each order of n numbers from 0 on.
func orders(n int, f func([]int)) {
	list := make([]int, n)
	for i := range list {
		list[i] = i
	}
	var swap func(at int)
	swap = func(at int) {
		if at == n {
			f(list)
			return
		}
		for i := at; i < n; i++ {
			list[at], list[i] = list[i], list[at]
			swap(at + 1)
			list[at], list[i] = list[i], list[at]
		}
	}
	swap(0)
}

func TestChapterExamples(t *testing.T) {
	first := []api.Item{{Key: 5, ID: 1}, {Key: 3, ID: 9}, {Key: 3, ID: 2}}
	h := with(t, first...)
	for _, want := range []api.Item{{Key: 3, ID: 2}, {Key: 3, ID: 9}, {Key: 5, ID: 1}} {
		if got, ok := h.Pop(); !ok || got != want {
			t.Errorf("Pop = %v, %v, not %v", got, ok, want)
		}
	}

	h = with(t, api.Item{Key: 5, ID: 1})
	checkErrno(t, "Push({5 1}) twice", h.Push(api.Item{Key: 5, ID: 1}), api.ErrTwice)

	h = with(t, first...)
	checkErrno(t, "Change({1 1})", h.Change(api.Item{Key: 1, ID: 1}), api.OK)
	if got, ok := h.Peek(); !ok || got != (api.Item{Key: 1, ID: 1}) {
		t.Errorf("Peek = %v, %v", got, ok)
	}
}

// P4.1, P4.2, P4.3: a heap without items.
func TestWithoutItems(t *testing.T) {
	h := heap.New()
	if h == nil {
		t.Fatal("New is nil")
	}
	look := func(name string) {
		t.Helper()
		checkHolds(t, name, h, nil)
		if got, ok := h.Pop(); ok || got != (api.Item{}) {
			t.Errorf("%s: Pop = %v, %v", name, got, ok)
		}
		for _, id := range []int{0, 1, -1, math.MinInt, math.MaxInt} {
			if got, ok := h.Get(id); ok || got != (api.Item{}) {
				t.Errorf("%s: Get(%d) = %v, %v", name, id, got, ok)
			}
			checkErrno(t, name+": Remove", h.Remove(id), api.ErrNone)
			checkErrno(t, name+": Change", h.Change(api.Item{Key: 1, ID: id}), api.ErrNone)
		}
		checkHolds(t, name, h, nil)
	}
	look("new")
	checkErrno(t, "Push", h.Push(api.Item{Key: 4, ID: 1}), api.OK)
	h.Pop()
	look("behind a Pop")
	checkErrno(t, "Push", h.Push(api.Item{Key: 4, ID: 1}), api.OK)
	checkErrno(t, "Remove", h.Remove(1), api.OK)
	look("behind a Remove")
}

// P4.1, P4.2, P4.3: a heap of one item, of all keys and ids that there may be.
func TestOneItem(t *testing.T) {
	for _, key := range []uint64{0, 1, api.Cap, math.MaxInt64, math.MaxInt64 + 1, math.MaxUint64} {
		for _, id := range []int{0, 1, -1, api.MaxID, api.MaxID + 1, math.MinInt, math.MaxInt} {
			x := api.Item{Key: key, ID: id}
			checkHolds(t, "one", with(t, x), []api.Item{x})
			checkComesOut(t, "one", with(t, x), []api.Item{x})

			h := with(t, x)
			checkErrno(t, "Remove of the one", h.Remove(id), api.OK)
			checkComesOut(t, "one removed", h, nil)

			h = with(t, x)
			x.Key = ^key
			checkErrno(t, "Change of the one", h.Change(x), api.OK)
			checkHolds(t, "one changed", h, []api.Item{x})
			checkComesOut(t, "one changed", h, []api.Item{x})
		}
	}
}

// P4.1: of two items goes first the one with the lesser Key; of one Key the one with the lesser ID.
func TestWhoGoesFirst(t *testing.T) {
	rows := []struct {
		name         string
		first, other api.Item
	}{
		{"lesser key", api.Item{Key: 1, ID: 1}, api.Item{Key: 2, ID: 2}},
		{"lesser key of a greater id", api.Item{Key: 1, ID: 2}, api.Item{Key: 2, ID: 1}},
		{"lesser id", api.Item{Key: 1, ID: 1}, api.Item{Key: 1, ID: 2}},
		{"id below 0", api.Item{Key: 1, ID: -1}, api.Item{Key: 1, ID: 0}},
		{"least id beside the greatest", api.Item{Key: 1, ID: math.MinInt}, api.Item{Key: 1, ID: math.MaxInt}},
		{"least id beside 1", api.Item{Key: 1, ID: math.MinInt}, api.Item{Key: 1, ID: 1}},
		{"-1 beside the greatest id", api.Item{Key: 1, ID: -1}, api.Item{Key: 1, ID: math.MaxInt}},
		{"least key beside the greatest", api.Item{Key: 0, ID: 2}, api.Item{Key: math.MaxUint64, ID: 1}},
		{"key 1 beside the greatest", api.Item{Key: 1, ID: 2}, api.Item{Key: math.MaxUint64, ID: 1}},
		{"key below 2^63 beside it", api.Item{Key: 1<<63 - 1, ID: 2}, api.Item{Key: 1 << 63, ID: 1}},
		{"0 beside 2^63", api.Item{Key: 0, ID: 2}, api.Item{Key: 1 << 63, ID: 1}},
		{"great keys with one between", api.Item{Key: 1 << 60, ID: 2}, api.Item{Key: 1<<60 + 1, ID: 1}},
		{"keys alike in their low half", api.Item{Key: 5, ID: 2}, api.Item{Key: 1<<32 + 5, ID: 1}},
		{"ids alike in their low half", api.Item{Key: 1, ID: 5}, api.Item{Key: 1, ID: 1<<32 + 5}},
		{"greatest keys", api.Item{Key: math.MaxUint64, ID: 1}, api.Item{Key: math.MaxUint64, ID: 2}},
	}
	for _, r := range rows {
		want := []api.Item{r.first, r.other}
		for _, list := range [][]api.Item{{r.first, r.other}, {r.other, r.first}} {
			checkHolds(t, r.name, with(t, list...), want)
			checkComesOut(t, r.name, with(t, list...), want)
		}
	}
}

// P4.1: an ID that is there already, whatever its Key; nothing changes by it.
func TestPushTwice(t *testing.T) {
	list := row(4, 2, 6, 2)
	want := modelOf(list).list()
	for _, x := range list {
		for _, key := range []uint64{x.Key, 0, x.Key - 1, x.Key + 1, math.MaxUint64} {
			h := with(t, list...)
			checkErrno(t, "Push of an id twice", h.Push(api.Item{Key: key, ID: x.ID}), api.ErrTwice)
			checkHolds(t, "pushed twice", h, want)
			checkComesOut(t, "pushed twice", h, want)
		}
	}
}

// P4.1: the ID of one that went is free again, with any Key.
func TestPushAgain(t *testing.T) {
	list := row(4, 2, 6, 2, 9)
	for _, key := range []uint64{0, 2, 3, 5, 9, math.MaxUint64} {
		h := with(t, list...)
		m := modelOf(list)
		x, _ := h.Pop()
		checkErrno(t, "Push again behind a Pop", h.Push(api.Item{Key: key, ID: x.ID}), api.OK)
		m[x.ID] = key
		checkErrno(t, "Push again twice", h.Push(x), api.ErrTwice)
		checkHolds(t, "popped and pushed", h, m.list())
		checkComesOut(t, "popped and pushed", h, m.list())

		for _, x := range list {
			h := with(t, list...)
			m := modelOf(list)
			checkErrno(t, "Remove", h.Remove(x.ID), api.OK)
			checkErrno(t, "Push again behind a Remove", h.Push(api.Item{Key: key, ID: x.ID}), api.OK)
			m[x.ID] = key
			checkErrno(t, "Push again twice", h.Push(x), api.ErrTwice)
			checkHolds(t, "removed and pushed", h, m.list())
			checkComesOut(t, "removed and pushed", h, m.list())
		}
	}
}

// P4.1: MaxItems are taken, one more is not; a twice that finds no room is a twice.
func TestFull(t *testing.T) {
	list := upTo(api.MaxItems-1, func(i int) int { return i * 7 % 1000 })
	h := with(t, list...)
	checkErrno(t, "twice, with room for one", h.Push(list[5]), api.ErrTwice)
	last := api.Item{Key: 3, ID: api.MaxItems - 1}
	checkErrno(t, "the last one", h.Push(last), api.OK)
	want := modelOf(append(slices.Clone(list), last)).list()
	checkHolds(t, "full", h, want)

	for _, x := range []api.Item{{Key: 0, ID: -1}, {Key: 500, ID: api.MaxItems}, {Key: math.MaxUint64, ID: math.MaxInt}} {
		checkErrno(t, "one more", h.Push(x), api.ErrFull)
		if got, ok := h.Get(x.ID); ok || got != (api.Item{}) {
			t.Errorf("Get(%d) = %v, %v of one that found no room", x.ID, got, ok)
		}
		checkErrno(t, "Change of one that found no room", h.Change(x), api.ErrNone)
		checkErrno(t, "Remove of one that found no room", h.Remove(x.ID), api.ErrNone)
	}
	for _, x := range []api.Item{want[0], want[len(want)-1], last, {Key: 1 << 40, ID: 9}} {
		checkErrno(t, "twice, and full", h.Push(x), api.ErrTwice)
	}
	checkHolds(t, "full, and asked for more", h, want)
	checkComesOut(t, "full", h, want)
}

// P4.1: behind a Pop, or a Remove, a full heap has room for one, and for no more.
func TestFullNoMore(t *testing.T) {
	list := upTo(api.MaxItems, func(i int) int { return i * 31 % 5000 })
	h := with(t, list...)
	m := modelOf(list)
	leave := []func(){
		func() { x, _ := h.Pop(); delete(m, x.ID) },
		func() { checkErrno(t, "Remove", h.Remove(2000), api.OK); delete(m, 2000) },
		func() { checkErrno(t, "Remove", h.Remove(4095), api.OK); delete(m, 4095) },
	}
	for i, f := range leave {
		f()
		x := api.Item{Key: uint64(i) * 2222, ID: -1 - i}
		checkErrno(t, "one for one", h.Push(x), api.OK)
		m[x.ID] = x.Key
		checkErrno(t, "one more", h.Push(api.Item{Key: 1, ID: -100}), api.ErrFull)
		checkHolds(t, "one for one", h, m.list())
	}
	checkErrno(t, "Change of a full one", h.Change(api.Item{Key: 1 << 50, ID: -1}), api.OK)
	m[-1] = 1 << 50
	checkComesOut(t, "one for one", h, m.list())
}

// P4.2: Remove of each one of small heaps, pushed in each order: the first, the last, those between.
func TestRemoveEach(t *testing.T) {
	for n := 1; n <= 6; n++ {
		orders(n, func(keys []int) {
			list := upTo(n, func(i int) int { return keys[i] })
			for _, gone := range list {
				h := with(t, list...)
				checkErrno(t, "Remove", h.Remove(gone.ID), api.OK)
				if got, ok := h.Get(gone.ID); ok || got != (api.Item{}) {
					t.Fatalf("Get(%d) = %v, %v behind its Remove", gone.ID, got, ok)
				}
				checkErrno(t, "Remove twice", h.Remove(gone.ID), api.ErrNone)
				checkErrno(t, "Change behind a Remove", h.Change(gone), api.ErrNone)
				m := modelOf(list)
				delete(m, gone.ID)
				checkHolds(t, "removed", h, m.list())
				checkComesOut(t, "removed", h, m.list())
			}
		})
	}
}

// P4.2: the last one fills the gap, and has to go up there: it stood in another branch.
func TestRemoveWhereTheLastGoesUp(t *testing.T) {
	keys := []uint64{0, 50, 1, 60, 70, 2, 3, 80, 81, 82, 83, 4, 5, 6, 7}
	for gone := range keys {
		list := row(keys...)
		h := with(t, list...)
		m := modelOf(list)
		checkErrno(t, "Remove", h.Remove(gone+1), api.OK)
		delete(m, gone+1)
		// Those that stand low are changed to stand last, so that what is above them comes to the front.
		for id := range keys {
			if x, ok := h.Get(id + 1); ok && x.Key < 4 {
				checkErrno(t, "Change", h.Change(api.Item{Key: x.Key + 100, ID: x.ID}), api.OK)
				m[x.ID] = x.Key + 100
				checkFirst(t, "changed", h, m.list())
			}
		}
		checkComesOut(t, "the last goes up", h, m.list())
	}
}

// P4.2: Change of each one of small heaps to each key: up, down, to what it is, to what another one has.
func TestChangeEach(t *testing.T) {
	for n := 1; n <= 5; n++ {
		orders(n, func(keys []int) {
			list := upTo(n, func(i int) int { return 2*keys[i] + 1 })
			for id := range n {
				for key := range 2*n + 1 {
					h := with(t, list...)
					x := api.Item{Key: uint64(key), ID: id}
					checkErrno(t, "Change", h.Change(x), api.OK)
					m := modelOf(list)
					m[id] = x.Key
					checkHolds(t, "changed", h, m.list())
					checkComesOut(t, "changed", h, m.list())
				}
			}
		})
	}
}

// P4.2: Change to the least and the greatest Key, and back, in a great heap.
func TestChangeFar(t *testing.T) {
	list := upTo(1000, func(i int) int { return 1 + i*37%500 })
	h := with(t, list...)
	m := modelOf(list)
	for _, id := range []int{0, 1, 2, 499, 500, 998, 999} {
		for _, key := range []uint64{0, math.MaxUint64, 250, m[id]} {
			checkErrno(t, "Change", h.Change(api.Item{Key: key, ID: id}), api.OK)
			m[id] = key
			checkHolds(t, "changed far", h, m.list())
		}
	}
	checkComesOut(t, "changed far", h, m.list())
}

// P4.2: an ID that isn't there; nothing changes by it.
func TestNotThere(t *testing.T) {
	list := row(4, 2, 6, 2)
	want := modelOf(list).list()
	h := with(t, list...)
	for _, id := range []int{0, 5, -1, 4 + 1<<32, math.MinInt, math.MaxInt} {
		if got, ok := h.Get(id); ok || got != (api.Item{}) {
			t.Errorf("Get(%d) = %v, %v", id, got, ok)
		}
		checkErrno(t, "Remove of none", h.Remove(id), api.ErrNone)
		checkErrno(t, "Change of none", h.Change(api.Item{Key: 0, ID: id}), api.ErrNone)
		checkHolds(t, "none", h, want)
	}
	checkComesOut(t, "none", h, want)
}

// P4.3: of nil Push, Remove, Change are ErrNone, the others tell nothing.
func TestNil(t *testing.T) {
	var h *heap.Heap
	for range 2 {
		for _, id := range []int{0, 1, -1, math.MinInt, math.MaxInt} {
			checkErrno(t, "Push to nil", h.Push(api.Item{Key: 1, ID: id}), api.ErrNone)
			checkErrno(t, "Remove from nil", h.Remove(id), api.ErrNone)
			checkErrno(t, "Change of nil", h.Change(api.Item{Key: 1, ID: id}), api.ErrNone)
			if got, ok := h.Get(id); ok || got != (api.Item{}) {
				t.Errorf("Get(%d) of nil = %v, %v", id, got, ok)
			}
		}
		if got, ok := h.Pop(); ok || got != (api.Item{}) {
			t.Errorf("Pop of nil = %v, %v", got, ok)
		}
		checkHolds(t, "nil", h, nil)
	}
}

// P4.3: what is listed is memory of its own, its spare room too, and listing changes nothing.
func TestListOfItsOwn(t *testing.T) {
	for n := 1; n <= 40; n++ {
		list := upTo(n, func(i int) int { return (n - i) * 5 })
		want := modelOf(list).list()
		h := with(t, list...)
		first, second := h.List(), h.List()
		whole := first[:cap(first)]
		for i := range whole {
			whole[i] = api.Item{Key: 1, ID: -1 - i}
		}
		if !slices.Equal(second, want) {
			t.Fatalf("one list changed another: %v, not %v", second, want)
		}
		checkHolds(t, "a list was changed", h, want)

		x := api.Item{Key: 17, ID: n}
		checkErrno(t, "Push behind a list", h.Push(x), api.OK)
		checkErrno(t, "Change behind a list", h.Change(api.Item{Key: 0, ID: 0}), api.OK)
		checkErrno(t, "Remove behind a list", h.Remove(n/2), api.OK)
		m := modelOf(append(slices.Clone(list), x))
		m[0] = 0
		delete(m, n/2)
		if !slices.Equal(second, want) {
			t.Fatalf("a list changed with the heap: %v, not %v", second, want)
		}
		for i := range whole {
			if whole[i] != (api.Item{Key: 1, ID: -1 - i}) {
				t.Fatalf("a list's spare room changed with the heap: %v", whole)
			}
		}
		checkComesOut(t, "listed", h, m.list())
	}
}

// P4.4: items come out as they go, in whatever order they were pushed: all orders of few.
func TestAllOrders(t *testing.T) {
	for n := range 8 {
		orders(n, func(keys []int) {
			// The halves let two have one key.
			for _, by := range []int{1, 2} {
				list := upTo(n, func(i int) int { return keys[i] / by })
				checkComesOut(t, "all orders", with(t, list...), modelOf(list).list())
			}
		})
	}
}

// P4.4: items of one Key come out by their IDs.
func TestOneKey(t *testing.T) {
	for _, key := range []uint64{0, 8, math.MaxUint64} {
		var list []api.Item
		for i := range 300 {
			list = append(list, api.Item{Key: key, ID: i*91%300 - 150})
		}
		want := modelOf(list).list()
		checkHolds(t, "one key", with(t, list...), want)
		checkComesOut(t, "one key", with(t, list...), want)
	}
}

// P4.4: rising, falling and mixed ones, as many as there may be.
func TestManyOrders(t *testing.T) {
	r := seed
	rows := []struct {
		name string
		key  func(i int) int
	}{
		{"rising", func(i int) int { return i }},
		{"falling", func(i int) int { return api.MaxItems - i }},
		{"up and down", func(i int) int { return max(i, api.MaxItems-i) }},
		{"mixed", func(int) int { return r.below(1 << 50) }},
		{"mixed, of few keys", func(int) int { return r.below(3) }},
	}
	for _, row := range rows {
		list := upTo(api.MaxItems, row.key)
		want := modelOf(list).list()
		checkHolds(t, row.name, with(t, list...), want)
		checkComesOut(t, row.name, with(t, list...), want)
	}
}

// walk does some thing to a heap and to its model, and holds their answers against each other.
func walk(t *testing.T, r *random, h *heap.Heap, m model, ids, keys int) {
	t.Helper()
	x := api.Item{Key: uint64(r.below(keys)), ID: r.below(ids) - ids/2}
	_, there := m[x.ID]
	none := api.OK
	if !there {
		none = api.ErrNone
	}
	switch r.below(9) {
	case 0, 1, 2, 3:
		twice := api.OK
		if there {
			twice = api.ErrTwice
		} else {
			m[x.ID] = x.Key
		}
		checkErrno(t, "Push in a walk", h.Push(x), twice)
	case 4, 5:
		checkErrno(t, "Change in a walk", h.Change(x), none)
		if there {
			m[x.ID] = x.Key
		}
	case 6:
		checkErrno(t, "Remove in a walk", h.Remove(x.ID), none)
		delete(m, x.ID)
	case 7:
		want := m.list()
		got, ok := h.Pop()
		if ok != (len(want) > 0) || ok && got != want[0] || !ok && got != (api.Item{}) {
			t.Fatalf("Pop in a walk = %v, %v of %v", got, ok, want)
		}
		delete(m, got.ID)
	case 8:
		want, ok := m[x.ID]
		if got, found := h.Get(x.ID); found != ok || ok && got != (api.Item{Key: want, ID: x.ID}) || !ok && got != (api.Item{}) {
			t.Fatalf("Get(%d) in a walk = %v, %v, not %d, %v", x.ID, got, found, want, ok)
		}
	}
	checkFirst(t, "a walk", h, m.list())
}

// P4.1 to P4.4: long walks, held against a model.
func TestWalks(t *testing.T) {
	r := seed
	for _, ids := range []int{1, 2, 5, 12, 40, 120} {
		for _, keys := range []int{1, 3, 20, 1 << 40} {
			h, m := heap.New(), model{}
			for i := range 3000 {
				walk(t, &r, h, m, ids, keys)
				if i%50 == 0 {
					checkHolds(t, "a walk", h, m.list())
				}
			}
			checkComesOut(t, "a walk", h, m.list())
		}
	}
}

// Rule 4: what one heap holds does not hang on another one.
func TestHeapsApart(t *testing.T) {
	r := seed
	heaps := []*heap.Heap{heap.New(), heap.New(), heap.New()}
	models := []model{{}, {}, {}}
	for range 3000 {
		at := r.below(len(heaps))
		walk(t, &r, heaps[at], models[at], 30, 10)
	}
	for i, h := range heaps {
		checkHolds(t, "heaps apart", h, models[i].list())
		checkComesOut(t, "heaps apart", h, models[i].list())
	}
}
