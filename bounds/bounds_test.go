package bounds_test

import (
	"math"
	"math/big"
	"slices"
	"testing"

	"usher/api"
	"usher/bounds"
	"usher/split"
)

// random are numbers, the same ones each time.
type random uint64

func (r *random) next() uint64 {
	x := uint64(*r)
	x ^= x << 13
	x ^= x >> 7
	x ^= x << 17
	*r = random(x)
	return x
}

func (r *random) below(n int) int { return int((r.next() >> 11) % uint64(n)) }

// one in n times.
func (r *random) one(n int) bool { return r.below(n) == 0 }

func pick[T any](r *random, of ...T) T { return of[r.below(len(of))] }

const seed = random(88172645463325252)

// Numbers that a Lend, and a Borrow, may be, and such as they may not.
var (
	lends      = [...]int{0, 1, 2, 33, 49, 50, 51, 66, 67, 99, 100}
	wrongLends = [...]int{math.MinInt, math.MinInt + 1, -1 << 32, -100, -2, -1, 101, 102, 200, 1000, 1<<32 + 50, math.MaxInt - 1, math.MaxInt}

	borrows      = [...]int{-1, 0, 1, 2, 20, 33, 50, 99, 100, 101, 300, 999, 1000}
	wrongBorrows = [...]int{math.MinInt, math.MinInt + 1, -1 << 32, -1000, -3, -2, 1001, 1002, 2000, 1<<32 - 1, 1<<32 + 50, math.MaxInt - 1, math.MaxInt}
)

// wrongTotals are those that split does not take.
var wrongTotals = [...]int{math.MinInt, math.MinInt + 1, -1 << 32, -2, -1, api.MaxTotal + 1, api.MaxTotal + 2, 1<<32 + 10, math.MaxInt - 1, math.MaxInt}

// What follows is the chapter once more, by other means: fractions, which lose nothing till they are rounded.

func hundredth(n, of int) *big.Rat { return big.NewRat(int64(n)*int64(of), 100) }

// down is a fraction without what it has beyond a whole number.
func down(x *big.Rat) int { return int(new(big.Int).Quo(x.Num(), x.Denom()).Int64()) }

func wantBound(total, part int, l api.Level) api.Bound {
	want := api.Bound{Nominal: part, Min: part - down(hundredth(l.Lend, part)), Max: total}
	if more := part + down(hundredth(l.Borrow, part)); l.Borrow != -1 && more < total {
		want.Max = more
	}
	return want
}

func within(n, least, most int) bool { return n >= least && n <= most }

func wantBounds(total int, l []api.Level) ([]api.Bound, api.Errno) {
	var given []int
	for _, level := range l {
		given = append(given, level.Shares)
	}
	parts, e := split.Split(total, given)
	if e != api.OK {
		return nil, e
	}
	var want []api.Bound
	for i, level := range l {
		if !within(level.Lend, 0, 100) || !within(level.Borrow, -1, 1000) {
			return nil, api.ErrRange
		}
		want = append(want, wantBound(total, parts[i], level))
	}
	return want, api.OK
}

// are: the levels have these bounds.
func are(t *testing.T, total int, l []api.Level, want ...api.Bound) {
	t.Helper()
	if got, e := bounds.Bounds(total, l); e != api.OK || !slices.Equal(got, want) {
		t.Errorf("Bounds(%d, %v) = %v, error %d; want %v", total, brief(l), got, e, want)
	}
}

// refused: the error is this one, and no bounds are told.
func refused(t *testing.T, total int, l []api.Level, want api.Errno) {
	t.Helper()
	if got, e := bounds.Bounds(total, l); e != want || len(got) != 0 {
		t.Errorf("Bounds(%d, %v) = %v, error %d; want error %d", total, brief(l), got, e, want)
	}
}

// holds: the bounds, or the error, are what the chapter says.
func holds(t *testing.T, total int, l []api.Level) {
	t.Helper()
	want, e := wantBounds(total, l)
	if e == api.OK {
		are(t, total, l, want...)
	} else {
		refused(t, total, l, e)
	}
}

// brief is what matters of some levels, of not too many.
func brief(l []api.Level) [][3]int {
	var list [][3]int
	for _, level := range l[:min(len(l), 20)] {
		list = append(list, [3]int{level.Shares, level.Lend, level.Borrow})
	}
	return list
}

func level(shares, lend, borrow int) api.Level {
	return api.Level{Shares: shares, Lend: lend, Borrow: borrow}
}

func list(l ...api.Level) []api.Level { return l }

// many levels, each the same.
func many(n int, l api.Level) []api.Level { return slices.Repeat(list(l), n) }

// P18.1: the chapter's examples.
func TestExamples(t *testing.T) {
	are(t, 10, list(level(3, 50, -1), level(1, 0, 20)), api.Bound{Nominal: 8, Min: 4, Max: 10}, api.Bound{Nominal: 2, Min: 2, Max: 2})
}

// P18.1: what is left is the part less the hundredths, and these, not the rest, are rounded down.
func TestLend(t *testing.T) {
	for _, c := range []struct{ total, lend, min int }{
		{100, 0, 100}, {100, 1, 99}, {100, 33, 67}, {100, 50, 50}, {100, 99, 1}, {100, 100, 0},
		{10, 0, 10}, {10, 1, 10}, {10, 9, 10}, {10, 10, 9}, {10, 19, 9}, {10, 20, 8}, {10, 33, 7}, {10, 99, 1}, {10, 100, 0},
		{5, 19, 5}, {5, 20, 4}, {5, 33, 4}, {5, 39, 4}, {5, 40, 3}, {5, 50, 3}, {5, 99, 1}, {5, 100, 0},
		{1, 0, 1}, {1, 1, 1}, {1, 50, 1}, {1, 99, 1}, {1, 100, 0}, {0, 0, 0}, {0, 33, 0}, {0, 99, 0}, {0, 100, 0},
		{99, 1, 99}, {101, 1, 100}, {199, 1, 198}, {200, 1, 198}, {4096, 1, 4056}, {4096, 33, 2745}, {4096, 99, 41}, {4096, 100, 0},
	} {
		are(t, c.total, list(level(7, c.lend, 0)), api.Bound{Nominal: c.total, Min: c.min, Max: c.total})
	}
}

// P18.1: what may be borrowed, rounded down, up to the total; the level has one of ten shares, or what is said.
func TestBorrow(t *testing.T) {
	for _, c := range []struct{ total, shares, borrow, nominal, max int }{
		{1000, 1, -1, 100, 1000}, {1000, 1, 0, 100, 100}, {1000, 1, 1, 100, 101}, {1000, 1, 33, 100, 133}, {1000, 1, 100, 100, 200},
		// Just below the total, at it, and above it.
		{1000, 1, 899, 100, 999}, {1000, 1, 900, 100, 1000}, {1000, 1, 901, 100, 1000}, {1000, 1, 1000, 100, 1000},
		{1000, 5, 99, 500, 995}, {1000, 5, 100, 500, 1000}, {1000, 5, 101, 500, 1000}, {1000, 9, 10, 900, 990}, {1000, 9, 11, 900, 999}, {1000, 9, 12, 900, 1000},
		// Whole hundredths, and such as are rounded down.
		{100, 1, 9, 10, 10}, {100, 1, 10, 10, 11}, {100, 1, 19, 10, 11}, {100, 1, 20, 10, 12}, {100, 1, 899, 10, 99}, {100, 1, 909, 10, 100},
		{70, 1, 14, 7, 7}, {70, 1, 15, 7, 8}, {70, 1, 28, 7, 8}, {70, 1, 29, 7, 9}, {70, 1, 100, 7, 14}, {70, 1, 899, 7, 69}, {70, 1, 900, 7, 70},
		{10, 1, 99, 1, 1}, {10, 1, 100, 1, 2}, {10, 1, 199, 1, 2}, {10, 1, 200, 1, 3}, {10, 1, 899, 1, 9}, {10, 1, 900, 1, 10}, {10, 1, 1000, 1, 10},
		{4096, 1, 1000, 410, 4096}, {4096, 1, 899, 410, 4095}, {4096, 1, 0, 410, 410}, {4096, 10, 1000, 4096, 4096}, {4096, 10, -1, 4096, 4096},
		// Nothing, of which hundredths are nothing; but as much as there is may be all.
		{1000, 0, 1000, 0, 0}, {1000, 0, 0, 0, 0}, {1000, 0, -1, 0, 1000}, {0, 1, 1000, 0, 0}, {0, 1, -1, 0, 0}, {0, 0, -1, 0, 0},
	} {
		other := level(10-c.shares, 0, 0)
		rest := api.Bound{Nominal: c.total - c.nominal, Min: c.total - c.nominal, Max: c.total - c.nominal}
		this := api.Bound{Nominal: c.nominal, Min: c.nominal, Max: c.max}
		are(t, c.total, list(level(c.shares, 0, c.borrow), other), this, rest)
		are(t, c.total, list(other, level(c.shares, 0, c.borrow)), rest, this)
	}
}

// P18.1: a level lends of its own part, not of the total, and each by its own numbers, in order.
func TestEachItsOwn(t *testing.T) {
	l := list(level(10, 0, -1), level(20, 100, 0), level(0, 50, 50), level(30, 33, 100), level(0, 100, -1), level(40, 99, 1))
	are(t, 100, l, api.Bound{Nominal: 10, Min: 10, Max: 100}, api.Bound{Nominal: 20, Min: 0, Max: 20}, api.Bound{},
		api.Bound{Nominal: 30, Min: 21, Max: 60}, api.Bound{Max: 100}, api.Bound{Nominal: 40, Min: 1, Max: 40})
	// Three parts of ten: who is first has the rest, and its hundredths are of that.
	are(t, 10, many(3, level(1, 25, 25)), api.Bound{Nominal: 4, Min: 3, Max: 5}, api.Bound{Nominal: 3, Min: 3, Max: 3}, api.Bound{Nominal: 3, Min: 3, Max: 3})
}

// P18.1: no level, one, as many as there may be, and more.
func TestHowMany(t *testing.T) {
	for _, l := range [][]api.Level{nil, {}, many(3, level(1, 0, 0))[:0]} {
		refused(t, 10, l, api.ErrNone)
		refused(t, 0, l, api.ErrNone)
		refused(t, -1, l, api.ErrArg)
	}
	are(t, 10, list(level(1, 0, 0)), api.Bound{Nominal: 10, Min: 10, Max: 10})
	are(t, 10, list(level(10000, 30, 1000)), api.Bound{Nominal: 10, Min: 7, Max: 10})
	are(t, 160, many(16, level(3, 30, 50)), slices.Repeat([]api.Bound{{Nominal: 10, Min: 7, Max: 15}}, 16)...)
	for _, n := range []int{17, 18, 100, 100000} {
		refused(t, 160, many(n, level(3, 30, 50)), api.ErrLong)
		refused(t, 160, many(n, level(0, 0, 0)), api.ErrLong)
		refused(t, 160, many(n, level(-1, -1, -2)), api.ErrLong)
		refused(t, -1, many(n, level(3, 30, 50)), api.ErrArg)
	}
}

// P18.1: the errors of the split, each ahead of the ones behind it and ahead of a Lend or Borrow that may not be.
func TestErrorsOfTheSplit(t *testing.T) {
	for _, wrong := range []api.Level{level(1, 0, 0), level(1, -1, 0), level(1, 101, -2), level(1, 0, 1001)} {
		for _, total := range wrongTotals {
			refused(t, total, list(wrong), api.ErrArg)
			refused(t, total, many(17, wrong), api.ErrArg)
			refused(t, total, nil, api.ErrArg)
			refused(t, total, list(wrong, level(-1, 0, 0)), api.ErrArg)
		}
		for _, shares := range []int{math.MinInt, -10000, -2, -1, 10001, 10002, 1<<32 + 1, math.MaxInt} {
			for _, total := range []int{0, 1, 10, 4096} {
				refused(t, total, list(wrong, level(shares, 0, 0)), api.ErrRange)
				refused(t, total, list(level(shares, 0, 0), wrong), api.ErrRange)
			}
			refused(t, 10, append(many(16, wrong), level(shares, 0, 0)), api.ErrLong)
		}
		wrong.Shares = 0
		refused(t, 10, list(wrong), api.ErrNone)
		refused(t, 10, many(16, wrong), api.ErrNone)
		refused(t, 10, many(17, wrong), api.ErrLong)
	}
	// Two shares that are together nothing are no reason to be taken.
	refused(t, 10, list(level(5, 0, 0), level(-5, 0, 0)), api.ErrRange)
}

// P18.1: total 0, 1, the greatest and about it.
func TestTotals(t *testing.T) {
	two := list(level(1, 50, 100), level(1, 100, -1))
	are(t, 0, two, api.Bound{}, api.Bound{})
	are(t, 1, two, api.Bound{Nominal: 1, Min: 1, Max: 1}, api.Bound{Max: 1})
	are(t, 2, two, api.Bound{Nominal: 1, Min: 1, Max: 2}, api.Bound{Nominal: 1, Max: 2})
	are(t, 3, two, api.Bound{Nominal: 2, Min: 1, Max: 3}, api.Bound{Nominal: 1, Max: 3})
	are(t, 4095, two, api.Bound{Nominal: 2048, Min: 1024, Max: 4095}, api.Bound{Nominal: 2047, Max: 4095})
	are(t, 4096, two, api.Bound{Nominal: 2048, Min: 1024, Max: 4096}, api.Bound{Nominal: 2048, Max: 4096})
	refused(t, 4097, two, api.ErrArg)
	for total := range api.MaxTotal + 1 {
		are(t, total, list(level(1, 0, 1000)), api.Bound{Nominal: total, Min: total, Max: total})
	}
}

// P18.1: one level that is out of range among others that are not, at each place; also one that has no share, and of
// a total of nothing.
func TestOutOfRange(t *testing.T) {
	var wrong []api.Level
	for _, shares := range []int{0, 1, 10000} {
		for _, lend := range wrongLends {
			wrong = append(wrong, level(shares, lend, 0), level(shares, lend, -1))
		}
		for _, borrow := range wrongBorrows {
			wrong = append(wrong, level(shares, 0, borrow), level(shares, 100, borrow))
		}
		wrong = append(wrong, level(shares, -1, -2), level(shares, 101, 1001), level(shares, math.MinInt, math.MaxInt))
	}
	for _, n := range []int{2, 3, 16} {
		for place := range n {
			for _, one := range wrong {
				for _, total := range []int{0, 1, 10, 4096} {
					l := many(n, level(5, 100, -1))
					l[place] = one
					refused(t, total, l, api.ErrRange)
				}
			}
		}
	}
	for _, one := range wrong {
		if one.Shares > 0 {
			refused(t, 10, list(one), api.ErrRange)
		}
	}
}

// P18.1: each Lend and Borrow that may be is taken, those about the edges are the last ones.
func TestInRange(t *testing.T) {
	for lend := -3; lend <= 103; lend++ {
		for borrow := -4; borrow <= 1003; borrow++ {
			got, e := bounds.Bounds(77, list(level(1, lend, borrow), level(2, 0, 0)))
			if taken := e == api.OK; taken != (within(lend, 0, 100) && within(borrow, -1, 1000)) || taken != (len(got) == 2) {
				t.Fatalf("Lend %d, Borrow %d: %v, error %d", lend, borrow, got, e)
			}
		}
	}
}

// P18.1: names, kinds and what else a level has do not matter, whatever they are.
func TestRestOfTheLevel(t *testing.T) {
	plain := list(level(3, 50, -1), level(1, 0, 20), level(0, 100, 1000))
	want, _ := wantBounds(10, plain)
	for _, name := range []string{"", "a", "exempt", "catch-all", "\x00\xff", " "} {
		for _, n := range []int{0, api.Exempt, api.Reject, api.Queue, 4, -1, math.MinInt, math.MaxInt} {
			l := slices.Clone(plain)
			for i := range l {
				l[i].Name, l[i].Kind = name, n
				are(t, 10, l, want...)
				l[i].Queues, l[i].Hand, l[i].Length, l[i].Wait, l[i].Guess = n, n, n, n, n
				are(t, 10, l, want...)
				if i == 0 {
					l[i].Kind = api.Exempt
				}
			}
			are(t, 10, l, want...)
			l[1].Borrow = 1001
			refused(t, 10, l, api.ErrRange)
		}
	}
}

// levels of any shares, most of them with numbers that may be.
func (r *random) levels(odd bool) []api.Level {
	l := make([]api.Level, 1+r.below(api.MaxLevels))
	of := pick(r, 1, 2, 10, 100, api.MaxShares)
	for i := range l {
		l[i] = level(r.below(of+1), r.lend(), r.borrow())
	}
	l[r.below(len(l))].Shares = 1 + r.below(of)
	if odd {
		r.spoil(l)
	}
	return l
}

func (r *random) lend() int {
	if r.one(3) {
		return pick(r, lends[:]...)
	}
	return r.below(101)
}

func (r *random) borrow() int {
	if r.one(3) {
		return pick(r, borrows[:]...)
	}
	return r.below(pick(r, 30, 300, api.MaxBorrow+2)) - 1
}

// spoil one of the levels.
func (r *random) spoil(l []api.Level) {
	one := &l[r.below(len(l))]
	switch r.below(3) {
	case 0:
		one.Lend = pick(r, wrongLends[:]...)
	case 1:
		one.Borrow = pick(r, wrongBorrows[:]...)
	case 2:
		one.Shares = pick(r, -1, api.MaxShares+1, math.MinInt, math.MaxInt)
	}
}

func (r *random) total() int {
	if r.one(20) {
		return pick(r, wrongTotals[:]...)
	}
	return r.below(pick(r, 2, 20, 300, api.MaxTotal+1))
}

// P18.1: many inputs, held against the chapter said in another way.
func TestAgainstTheChapter(t *testing.T) {
	r, met := seed, map[api.Errno]int{}
	for range 20000 {
		total, l := r.total(), r.levels(r.one(5))
		switch r.below(40) {
		case 0:
			l = append(l, many(16, level(1, 0, 0))...)
		case 1:
			for i := range l {
				l[i].Shares = 0
			}
		}
		holds(t, total, l)
		if t.Failed() {
			t.FailNow()
		}
		_, e := wantBounds(total, l)
		met[e]++
	}
	for _, e := range []api.Errno{api.OK, api.ErrArg, api.ErrLong, api.ErrRange, api.ErrNone} {
		if met[e] < 100 {
			t.Errorf("error %d only %d times: too few", e, met[e])
		}
	}
}

// follows: what P18.2 says of the bounds of a total.
func follows(t *testing.T, total int, l []api.Level) {
	t.Helper()
	got, e := bounds.Bounds(total, l)
	if e != api.OK || len(got) != len(l) {
		t.Fatalf("Bounds(%d, %v) = %v, error %d", total, brief(l), got, e)
	}
	all := api.Bound{}
	for i, b := range got {
		if b.Min < 0 || b.Min > b.Nominal || b.Nominal > b.Max || b.Max > total {
			t.Fatalf("Bounds(%d, %v): level %d has %v", total, brief(l), i, b)
		}
		all.Nominal += b.Nominal
		all.Min += b.Min
		all.Max += b.Max
	}
	if all.Nominal != total || all.Min > total || all.Max < total {
		t.Fatalf("Bounds(%d, %v) = %v: together %v", total, brief(l), got, all)
	}
}

// P18.2: Min is at most Nominal, that at most Max, that at most total; the Nominals are the total.
func TestWhatFollows(t *testing.T) {
	r := seed
	for range 50000 {
		follows(t, r.below(pick(&r, 2, 20, 300, api.MaxTotal+1)), r.levels(false))
	}
	for _, lend := range lends {
		for _, borrow := range borrows {
			for _, total := range []int{0, 1, 2, 3, 99, 100, 101, 4095, 4096} {
				for _, n := range []int{1, 2, 3, 15, 16} {
					follows(t, total, many(n, level(1, lend, borrow)))
					follows(t, total, append(many(n-1, level(0, lend, borrow)), level(10000, lend, borrow)))
				}
			}
		}
	}
}

// Rule 3: what is handed in stays as it was, its spare room, too; rule 4: and the answer is the same again.
func TestNothingIsChanged(t *testing.T) {
	r := seed
	for range 2000 {
		given := append(r.levels(r.one(3)), level(1, 2, 3), level(-4, -5, -6))
		asked := slices.Clone(given)
		l, total := asked[:len(asked)-2], r.total()
		first, e := bounds.Bounds(total, l)
		for range 3 {
			again, e2 := bounds.Bounds(total, l)
			if e != e2 || !slices.Equal(first, again) {
				t.Fatalf("%v, error %d; then %v, error %d", first, e, again, e2)
			}
		}
		if !slices.Equal(asked, given) {
			t.Fatalf("%v was made of %v", asked, given)
		}
	}
}

// Rule 3: an answer is new memory: written over, with its spare room, it changes no argument and no other answer.
func TestAnswersAreNew(t *testing.T) {
	l := list(level(3, 50, -1), level(1, 0, 20))
	want := []api.Bound{{Nominal: 8, Min: 4, Max: 10}, {Nominal: 2, Min: 2, Max: 2}}
	kept, _ := bounds.Bounds(10, l)
	for range 3 {
		got, _ := bounds.Bounds(10, l)
		whole := got[:cap(got)]
		for i := range whole {
			whole[i] = api.Bound{Nominal: -1, Min: -1, Max: -1}
		}
		are(t, 10, l, want...)
	}
	// Nor is an argument kept: changed, it changes no answer that was given.
	l[0], l[1] = level(1, 1, 1), level(9, 9, 9)
	if !slices.Equal(kept, want) {
		t.Errorf("%v was made of %v", kept, want)
	}
}
