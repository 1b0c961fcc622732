package borrow_test

import (
	"math"
	"math/big"
	"slices"
	"sort"
	"testing"

	"usher/api"
	"usher/borrow"
	"usher/bounds"
	"usher/demand"
	"usher/spread"
)

// random are numbers, the same ones each time.
type random uint64

func (r *random) next() uint64 {
	x := uint64(*r)
	x ^= x << 13
	x ^= x >> 7
	x ^= x << 17
	*r = random(x)
	return x
}

func (r *random) below(n int) int { return int((r.next() >> 11) % uint64(n)) }

// one in n times.
func (r *random) one(n int) bool { return r.below(n) == 0 }

func pick[T any](r *random, of ...T) T { return of[r.below(len(of))] }

const seed = random(88172645463325252)

// Numbers that may not be: as a total, and as a Smooth.
var (
	wrongTotals  = [...]int{math.MinInt, math.MinInt + 1, -1 << 32, -2, -1, api.MaxTotal + 1, api.MaxTotal + 2, 1<<32 + 10, math.MaxInt - 1, math.MaxInt}
	wrongSmooths = [...]int{math.MinInt, math.MinInt + 1, -1 << 32, -2, -1, api.MaxWant + 1, api.MaxWant + 2, 1<<32 + 5, math.MaxInt - 1, math.MaxInt}
	// idle are numbers that say nothing, where they stand.
	idle = [...]int{math.MinInt, -1 << 32, -1, 0, 1, 5, api.MaxTotal, api.MaxTotal + 1, api.MaxWant, api.MaxWant + 1, math.MaxInt}
)

func bound(nominal, least, most int) api.Bound {
	return api.Bound{Nominal: nominal, Min: least, Max: most}
}

// of are demands with these Smooths.
func of(smooths ...int) []api.Demand {
	list := make([]api.Demand, len(smooths))
	for i, n := range smooths {
		list[i].Smooth = n
	}
	return list
}

func list(b ...api.Bound) []api.Bound { return b }

// many bounds, each the same.
func many(n int, b api.Bound) []api.Bound { return slices.Repeat(list(b), n) }

func sum(numbers []int) int {
	all := 0
	for _, n := range numbers {
		all += n
	}
	return all
}

// are: the limits are these.
func are(t *testing.T, total int, b []api.Bound, d []api.Demand, want ...int) {
	t.Helper()
	if got, e := borrow.Limits(total, b, d); e != api.OK || !slices.Equal(got, want) {
		t.Errorf("Limits(%d, %v, %v) = %v, error %d; want %v", total, b, d, got, e, want)
	}
}

// refused: the error is this one, and no limits are told.
func refused(t *testing.T, total int, b []api.Bound, d []api.Demand, want api.Errno) {
	t.Helper()
	if got, e := borrow.Limits(total, b, d); e != want || len(got) != 0 {
		t.Errorf("Limits(%d, %d bounds, %d demands) = %v, error %d; want error %d", total, len(b), len(d), got, e, want)
	}
}

// lends: so much is lent, and so much is borrowed.
func lends(t *testing.T, b []api.Bound, limits []int, lent, borrowed int) {
	t.Helper()
	if x, y := borrow.Lent(b, limits); x != lent || y != borrowed {
		t.Errorf("Lent(%v, %v) = %d, %d; want %d, %d", b, limits, x, y, lent, borrowed)
	}
}

// asSpread: limits and error are what layer 3 answers of the same numbers, told one by one.
func asSpread(t *testing.T, total int, b []api.Bound, d []api.Demand) api.Errno {
	t.Helper()
	var lo, hi, want []int
	for _, x := range b {
		lo, hi = append(lo, x.Min), append(hi, x.Max)
	}
	for _, x := range d {
		want = append(want, x.Smooth)
	}
	limits, e := spread.Spread(total, lo, hi, want)
	if e == api.OK {
		are(t, total, b, d, limits...)
	} else {
		refused(t, total, b, d, e)
	}
	return e
}

// P20.1, P20.2: the chapter's example.
func TestExamples(t *testing.T) {
	b := list(bound(8, 4, 10), bound(2, 2, 10))
	are(t, 10, b, of(0, 9), 4, 6)
	lends(t, b, []int{4, 6}, 4, 4)
}

// P20.1: each number by its own place: who wants more has more, up to its Max, and nobody less than its Min.
func TestLimits(t *testing.T) {
	free := list(bound(5, 0, 10), bound(5, 0, 10))
	are(t, 10, free, of(9, 4), 7, 3)
	are(t, 10, free, of(4, 9), 3, 7)
	are(t, 10, free, of(0, 0), 5, 5)
	are(t, 9, free, of(0, 0), 5, 4)
	are(t, 10, free, of(9, 0), 10, 0)
	are(t, 10, free, of(0, 9), 1, 9)
	are(t, 10, list(bound(5, 0, 10), bound(5, 4, 10)), of(9, 4), 6, 4)
	are(t, 10, list(bound(5, 0, 10), bound(5, 0, 2)), of(0, 9), 8, 2)
	are(t, 10, list(bound(8, 4, 10), bound(2, 2, 10)), of(30, 0), 8, 2)
	are(t, 10, list(bound(8, 8, 8), bound(2, 2, 2)), of(0, api.MaxWant), 8, 2)
	are(t, 30, list(bound(10, 2, 30), bound(10, 5, 12), bound(10, 0, 30)), of(0, 50, 3), 3, 12, 15)
	are(t, 7, list(bound(7, 7, 7)), of(0), 7)
	are(t, 7, list(bound(0, 0, api.MaxTotal)), of(api.MaxWant), 7)
	are(t, api.MaxTotal, list(bound(0, 0, api.MaxTotal)), of(0), api.MaxTotal)
	are(t, 16, many(16, bound(1, 0, 16)), of(make([]int, 16)...), slices.Repeat([]int{1}, 16)...)
}

// P20.1: no bounds and no demands have none, if there is nothing to hand out.
func TestNone(t *testing.T) {
	for _, b := range [][]api.Bound{nil, {}, many(3, bound(1, 1, 1))[:0]} {
		for _, d := range [][]api.Demand{nil, {}, of(1, 2)[:0]} {
			are(t, 0, b, d)
			for _, total := range []int{1, 10, api.MaxTotal} {
				refused(t, total, b, d, api.ErrNone)
			}
			for _, total := range wrongTotals {
				refused(t, total, b, d, api.ErrArg)
			}
		}
	}
}

// P20.1: of unlike many there are no limits, whatever the numbers, but a total that may not be comes ahead of that.
func TestUnlikeMany(t *testing.T) {
	for _, fill := range []api.Bound{bound(1, 0, 10), bound(0, 0, 0), bound(5, 5, 3), bound(-1, -1, api.MaxTotal+1)} {
		for _, smooth := range []int{0, 5, -1, api.MaxWant + 1} {
			for _, c := range [][2]int{
				{1, 0}, {2, 0}, {16, 0}, {17, 0}, {0, 1}, {0, 2}, {0, 16}, {0, 17}, {2, 1}, {1, 2}, {3, 2}, {2, 3},
				{16, 15}, {15, 16}, {17, 16}, {16, 17}, {18, 17}, {17, 18}, {1, 100000}, {100000, 1},
			} {
				b, d := many(c[0], fill), of(slices.Repeat([]int{smooth}, c[1])...)
				for _, total := range []int{0, 1, 10, api.MaxTotal} {
					refused(t, total, b, d, api.ErrForm)
				}
				refused(t, -1, b, d, api.ErrArg)
				refused(t, api.MaxTotal+1, b, d, api.ErrArg)
			}
		}
	}
	// Spare room is not counted.
	refused(t, 4, many(2, bound(1, 0, 4))[:1], of(1, 1), api.ErrForm)
	refused(t, 4, many(2, bound(1, 0, 4)), of(1, 1)[:1], api.ErrForm)
}

// P20.1: as many as there may be, and more.
func TestHowMany(t *testing.T) {
	for n := 1; n <= 40; n++ {
		b, d := many(n, bound(2, 1, 3)), of(make([]int, n)...)
		if n <= api.MaxLevels {
			are(t, 2*n, b, d, slices.Repeat([]int{2}, n)...)
			continue
		}
		refused(t, 2*n, b, d, api.ErrLong)
		refused(t, 0, b, d, api.ErrLong)
		b[n-1].Min, d[0].Smooth = -1, -1
		refused(t, 2*n, b, d, api.ErrLong)
		refused(t, -1, b, d, api.ErrArg)
	}
	refused(t, 10, many(100000, bound(0, 0, 1)), make([]api.Demand, 100000), api.ErrLong)
}

// P20.1: totals below the Mins, at them, at the Maxs and above them.
func TestTotals(t *testing.T) {
	b, d := list(bound(4, 3, 5), bound(6, 2, 9)), of(1, 8)
	for total, want := range map[int][]int{5: {3, 2}, 6: {3, 3}, 7: {3, 4}, 13: {4, 9}, 14: {5, 9}} {
		are(t, total, b, d, want...)
	}
	for _, total := range []int{0, 1, 3, 4, 15, 16, 100, api.MaxTotal} {
		refused(t, total, b, d, api.ErrNone)
	}
	for _, total := range wrongTotals {
		refused(t, total, b, d, api.ErrArg)
		refused(t, total, list(bound(0, -1, 5)), of(-1), api.ErrArg)
	}
	// Nominals say nothing of whether there are limits.
	are(t, 14, list(bound(100, 3, 5), bound(-100, 2, 9)), d, 5, 9)
	refused(t, 10, list(bound(5, 6, 10), bound(5, 6, 10)), d, api.ErrNone)
	refused(t, 10, list(bound(5, 0, 4), bound(5, 0, 4)), d, api.ErrNone)
	all := bound(api.MaxTotal, api.MaxTotal, api.MaxTotal)
	are(t, api.MaxTotal, list(all), d[:1], api.MaxTotal)
	refused(t, api.MaxTotal, list(all, all), d, api.ErrNone)
	refused(t, api.MaxTotal-1, list(all), d[:1], api.ErrNone)
}

// P20.1: a bound that may not be among others that may, at each place.
func TestWrongBounds(t *testing.T) {
	for _, wrong := range []api.Bound{
		bound(1, 2, 1), bound(1, 1, 0), bound(10, 10, 9), bound(0, api.MaxTotal, 0), bound(0, api.MaxTotal+1, api.MaxTotal), bound(0, math.MaxInt, 0),
		bound(0, -1, 1), bound(0, -1, -1), bound(-1, -2, -1), bound(0, math.MinInt, 1), bound(0, math.MinInt, math.MaxInt), bound(0, -1<<32, 1),
		bound(0, 0, -1), bound(0, 0, math.MinInt), bound(0, 0, api.MaxTotal+1), bound(0, 0, math.MaxInt), bound(0, 0, 1<<32+1),
		bound(0, api.MaxTotal+1, api.MaxTotal+1), bound(0, math.MaxInt, math.MaxInt), bound(0, 1<<32, 1<<32),
	} {
		for _, n := range []int{1, 2, 3, 16} {
			for place := range n {
				b, d := many(n, bound(1, 1, 20)), of(make([]int, n)...)
				b[place] = wrong
				for _, total := range []int{0, n, 20, api.MaxTotal} {
					refused(t, total, b, d, api.ErrRange)
				}
			}
		}
	}
}

// P20.1: a Smooth that may not be among others that may, at each place, and those that just may.
func TestSmooths(t *testing.T) {
	for _, n := range []int{1, 2, 3, 16} {
		b := many(n, bound(1, 1, 20))
		for _, smooth := range []int{0, 1, api.MaxWant - 1, api.MaxWant} {
			are(t, 5*n, b, of(slices.Repeat([]int{smooth}, n)...), slices.Repeat([]int{5}, n)...)
		}
		for place := range n {
			for _, smooth := range wrongSmooths {
				d := of(slices.Repeat([]int{7}, n)...)
				d[place].Smooth = smooth
				for _, total := range []int{0, n, 20, api.MaxTotal} {
					refused(t, total, b, d, api.ErrRange)
				}
			}
		}
	}
	two := list(bound(5, 1, 9), bound(5, 1, 9))
	are(t, 10, two, of(0, api.MaxWant), 1, 9)
	are(t, 10, two, of(api.MaxWant, 0), 9, 1)
	are(t, 10, two, of(api.MaxWant, api.MaxWant), 5, 5)
	are(t, 10, two, of(api.MaxWant, api.MaxWant-1), 5, 5)
	are(t, 9, two, of(api.MaxWant-1, api.MaxWant), 4, 5)
}

// P20.1: High says nothing, and Nominal says nothing, whatever they are.
func TestWhatIsNotAsked(t *testing.T) {
	for _, x := range idle {
		for _, y := range idle {
			d := []api.Demand{{High: x, Smooth: 9}, {High: y, Smooth: 4}}
			are(t, 10, list(bound(5, 0, 10), bound(5, 0, 10)), d, 7, 3)
			are(t, 10, list(bound(x, 0, 10), bound(y, 4, 10)), d, 6, 4)
			d[1].Smooth = -1
			refused(t, 10, list(bound(x, 0, 10), bound(y, 0, 10)), d, api.ErrRange)
		}
	}
}

// number of seats up to most, or one that may not be.
func (r *random) number(most int, odd bool) int {
	if odd && r.one(12) {
		return pick(r, -1, most+1, math.MinInt, math.MaxInt)
	}
	return r.below(most + 1)
}

// handed is what a call might be handed: mostly of like many, mostly with limits.
func (r *random) handed() (int, []api.Bound, []api.Demand) {
	odd := r.one(4)
	of, n := pick(r, 1, 5, 30, 300), r.below(api.MaxLevels+1)
	b, d := make([]api.Bound, n), make([]api.Demand, n)
	least, most := 0, 0
	for i := range b {
		low := r.number(of, odd)
		b[i] = bound(int(r.next()), low, low+r.number(of, odd))
		d[i] = api.Demand{High: int(r.next()), Smooth: r.number(pick(r, 0, 1, of, api.MaxWant), odd)}
		least, most = least+b[i].Min, most+b[i].Max
	}
	total := least
	if between := min(most, api.MaxTotal) - least; between > 0 && between <= api.MaxTotal {
		total += r.below(between + 1)
	}
	switch r.below(12) {
	case 0:
		total = pick(r, wrongTotals[:]...)
	case 1:
		total = r.below(api.MaxTotal + 1)
	case 2:
		d = append(d, api.Demand{})
	case 3:
		b = append(b, bound(0, 0, 0))
	case 4:
		b, d = slices.Concat(b, make([]api.Bound, 16)), slices.Concat(d, make([]api.Demand, 16))
	}
	return total, b, d
}

// P20.1: many inputs, held against Spread of the same numbers, its errors too.
func TestAgainstSpread(t *testing.T) {
	r, met := seed, map[api.Errno]int{}
	for range 20000 {
		total, b, d := r.handed()
		met[asSpread(t, total, b, d)]++
		if t.Failed() {
			t.FailNow()
		}
	}
	for _, e := range []api.Errno{api.OK, api.ErrArg, api.ErrForm, api.ErrLong, api.ErrRange, api.ErrNone} {
		if met[e] < 200 {
			t.Errorf("error %d only %d times: too few", e, met[e])
		}
	}
}

// sorted works the limits out once more: all seats that somebody might have, by what their owner has with them for
// what it wants; the first of them are handed out.
func sorted(total int, b []api.Bound, d []api.Demand) []int {
	type seat struct{ owner, part, want int }
	var seats []seat
	limits := make([]int, len(b))
	for i := range b {
		limits[i] = b[i].Min
		for part := b[i].Min + 1; part <= b[i].Max; part++ {
			seats = append(seats, seat{i, part, d[i].Smooth + 1})
		}
	}
	sort.SliceStable(seats, func(x, y int) bool { return seats[x].part*seats[y].want < seats[y].part*seats[x].want })
	for _, s := range seats[:total-sum(limits)] {
		limits[s.owner]++
	}
	return limits
}

// P20.1: many inputs, held against the words of chapter 3 without its package.
func TestAgainstTheWords(t *testing.T) {
	r, met := seed, 0
	for range 4000 {
		total, b, d := r.handed()
		got, e := borrow.Limits(total, b, d)
		if e != api.OK {
			continue
		}
		if want := sorted(total, b, d); !slices.Equal(got, want) {
			t.Fatalf("Limits(%d, %v, %v) = %v; want %v", total, b, d, got, want)
		}
		met++
	}
	if met < 1000 {
		t.Errorf("only %d times: too few", met)
	}
}

// P20.2: limits below, at and above their Nominal, and of all of them together.
func TestLent(t *testing.T) {
	five := func(n int) []api.Bound { return many(n, bound(5, 0, 10)) }
	for limit, want := range map[int][2]int{0: {5, 0}, 1: {4, 0}, 4: {1, 0}, 5: {0, 0}, 6: {0, 1}, 9: {0, 4}, 10: {0, 5}, 100: {0, 95}, -3: {8, 0}} {
		lends(t, five(1), []int{limit}, want[0], want[1])
		lends(t, five(2), []int{limit, 5}, want[0], want[1])
		lends(t, five(2), []int{5, limit}, want[0], want[1])
		lends(t, five(3), []int{limit, limit, limit}, 3*want[0], 3*want[1])
		lends(t, five(3), []int{limit, 0, 12}, want[0]+5, want[1]+7)
	}
	lends(t, list(bound(8, 4, 10), bound(2, 2, 10), bound(0, 0, 3)), []int{1, 4, 2}, 7, 4)
	lends(t, list(bound(8, 4, 10), bound(2, 2, 10), bound(0, 0, 3)), []int{8, 2, 0}, 0, 0)
	lends(t, list(bound(8, 4, 10), bound(2, 2, 10), bound(0, 0, 3)), []int{7, 1, -1}, 3, 0)
	lends(t, list(bound(8, 4, 10), bound(2, 2, 10), bound(0, 0, 3)), []int{9, 3, 1}, 0, 3)
	// What is lent and what is borrowed need not be the same, and more levels than there may be are counted too.
	lends(t, many(1000, bound(5, 0, 9)), slices.Repeat([]int{2, 6}, 500), 1500, 500)
}

// P20.2: of as many as both have; what one has beyond the other says nothing.
func TestLentOfUnlikeMany(t *testing.T) {
	b := list(bound(8, 4, 10), bound(2, 2, 10), bound(7, 0, 9), bound(100, 0, 100))
	limits := []int{5, 9, 7, 1}
	for _, c := range []struct{ bounds, limits, lent, borrowed int }{
		{0, 0, 0, 0}, {4, 0, 0, 0}, {0, 4, 0, 0}, {1, 0, 0, 0}, {0, 1, 0, 0}, {1, 1, 3, 0}, {4, 1, 3, 0}, {1, 4, 3, 0}, {2, 2, 3, 7},
		{2, 4, 3, 7}, {4, 2, 3, 7}, {3, 3, 3, 7}, {3, 4, 3, 7}, {4, 3, 3, 7}, {4, 4, 102, 7},
	} {
		lends(t, b[:c.bounds], limits[:c.limits], c.lent, c.borrowed)
	}
	lends(t, nil, nil, 0, 0)
	lends(t, nil, limits, 0, 0)
	lends(t, b, nil, 0, 0)
	lends(t, []api.Bound{}, []int{}, 0, 0)
}

// P20.2: Min and Max say nothing, whatever they are.
func TestLentAsksForNominalsAlone(t *testing.T) {
	for _, x := range idle {
		for _, y := range idle {
			lends(t, list(bound(8, x, y), bound(2, y, x), bound(6, x, x)), []int{5, 4, 6}, 3, 2)
		}
	}
}

// wantLent is P20.2 in numbers without an end.
func wantLent(b []api.Bound, limits []int) (lent, borrowed *big.Int) {
	lent, borrowed = new(big.Int), new(big.Int)
	for i := 0; i < len(b) && i < len(limits); i++ {
		above := new(big.Int).Sub(big.NewInt(int64(limits[i])), big.NewInt(int64(b[i].Nominal)))
		if above.Sign() < 0 {
			lent.Sub(lent, above)
		} else {
			borrowed.Add(borrowed, above)
		}
	}
	return lent, borrowed
}

// P20.2: any numbers, as long as what they are together is a number of the kind that is answered.
func TestLentOfAnyNumbers(t *testing.T) {
	r, met := seed, 0
	number := func() int {
		return pick(&r, r.below(10), r.below(api.MaxTotal+1), -r.below(100), pick(&r, idle[:]...), int(r.next()), int(r.next())>>4)
	}
	for range 50000 {
		b, limits := make([]api.Bound, r.below(6)), make([]int, r.below(6))
		for i := range b {
			b[i] = bound(number(), number(), number())
		}
		for i := range limits {
			limits[i] = number()
		}
		lent, borrowed := wantLent(b, limits)
		x, y := borrow.Lent(b, limits)
		if lent.IsInt64() && int64(x) != lent.Int64() || borrowed.IsInt64() && int64(y) != borrowed.Int64() {
			t.Fatalf("Lent(%v, %v) = %d, %d; want %d, %d", b, limits, x, y, lent, borrowed)
		}
		if lent.IsInt64() && borrowed.IsInt64() {
			met++
		}
	}
	if met < 10000 {
		t.Errorf("only %d times: too few", met)
	}
	lends(t, list(bound(math.MaxInt, 0, 0)), []int{0}, math.MaxInt, 0)
	lends(t, list(bound(0, 0, 0)), []int{math.MaxInt}, 0, math.MaxInt)
	lends(t, list(bound(-1, 0, 0)), []int{math.MinInt}, math.MaxInt, 0)
	lends(t, list(bound(math.MinInt, 0, 0)), []int{-1}, 0, math.MaxInt)
}

// level that has any shares, and lends and borrows some, nothing, or as much as it may.
func (r *random) level() api.Level {
	return api.Level{
		Shares: r.below(pick(r, 2, 20, api.MaxShares) + 1),
		Lend:   pick(r, 0, 0, 50, 100, r.below(101)),
		Borrow: pick(r, 0, 0, -1, api.MaxBorrow, r.below(api.MaxBorrow+1)),
	}
}

func (r *random) levels() []api.Level {
	l := make([]api.Level, 1+r.below(api.MaxLevels))
	for i := range l {
		l[i] = r.level()
	}
	l[r.below(len(l))].Shares = 1 + r.below(api.MaxShares)
	return l
}

// demands of one kind: nothing, all, small, any, or those that layer 19 tells.
func (r *random) demands(n int) []api.Demand {
	d, kind := make([]api.Demand, n), r.below(6)
	for i := range d {
		d[i].High = int(r.next())
		switch kind {
		case 0:
			d[i].Smooth = 0
		case 1:
			d[i].Smooth = api.MaxWant
		case 2:
			d[i].Smooth = pick(r, 0, api.MaxWant)
		case 3:
			d[i].Smooth = r.below(20)
		case 4:
			d[i].Smooth = r.below(api.MaxWant + 1)
		case 5:
			d[i] = demand.Turn(demand.Note(api.Demand{}, int(r.next())), r.below(20))
		}
	}
	return d
}

// met counts, over many levels, those that lent, borrowed, and could do neither.
type met struct{ lent, borrowed, fixed int }

// follows: what P20.3 says of the limits of some levels.
func (m *met) follows(t *testing.T, total int, l []api.Level, d []api.Demand) {
	t.Helper()
	b, e := bounds.Bounds(total, l)
	if e != api.OK {
		t.Fatalf("Bounds(%d, %v): error %d", total, l, e)
	}
	limits, e := borrow.Limits(total, b, d)
	if e != api.OK || len(limits) != len(l) || sum(limits) != total {
		t.Fatalf("Limits(%d, %v, %v) = %v, error %d", total, b, d, limits, e)
	}
	below, above := 0, 0
	for i, limit := range limits {
		if limit < b[i].Min || limit > b[i].Max {
			t.Fatalf("Limits(%d, %v, %v) = %v: %d is outside its bounds", total, b, d, limits, i)
		}
		below += max(b[i].Nominal-limit, 0)
		above += max(limit-b[i].Nominal, 0)
		if l[i].Lend == 0 && l[i].Borrow == 0 {
			m.fixed++
			if limit != b[i].Nominal {
				t.Fatalf("Limits(%d, %v, %v) = %v: %d has not its Nominal", total, b, d, limits, i)
			}
		}
	}
	lent, borrowed := borrow.Lent(b, limits)
	if lent != borrowed || lent != below || borrowed != above {
		t.Fatalf("Lent(%v, %v) = %d, %d; want %d, %d", b, limits, lent, borrowed, below, above)
	}
	m.lent += lent
	m.borrowed += borrowed
}

// P20.3: over many levels and demands.
func TestWhatFollows(t *testing.T) {
	r, m := seed, met{}
	for range 10000 {
		l := r.levels()
		m.follows(t, r.below(pick(&r, 2, 20, 300, api.MaxTotal+1)), l, r.demands(len(l)))
	}
	if m.lent < 10000 || m.fixed < 10000 {
		t.Errorf("%v: too few", m)
	}
}

// P20.3: at the edges: totals, how many levels, what all of them lend and borrow, and want.
func TestWhatFollowsAtTheEdges(t *testing.T) {
	m := met{}
	for _, lend := range []int{0, 1, 50, 100} {
		for _, more := range []int{-1, 0, 1, 100, api.MaxBorrow} {
			for _, n := range []int{1, 2, 3, api.MaxLevels} {
				l := slices.Repeat([]api.Level{{Shares: 3, Lend: lend, Borrow: more}}, n)
				l[n-1].Shares = 1
				d := of(make([]int, n)...)
				for _, total := range []int{0, 1, 2, 15, 16, 17, 1000, api.MaxTotal} {
					for _, smooth := range []int{0, 1, api.MaxWant} {
						d[0].Smooth = smooth
						m.follows(t, total, l, d)
						m.follows(t, total, l, of(slices.Repeat([]int{smooth}, n)...))
					}
				}
			}
		}
	}
	if m.lent == 0 || m.fixed == 0 {
		t.Errorf("%v: too few", m)
	}
}

// P20.3: a level of Lend 0 and Borrow 0 among those that lend all and borrow what there is, whoever wants what.
func TestWhoLendsAndBorrowsNothing(t *testing.T) {
	for place := range 3 {
		l := slices.Repeat([]api.Level{{Shares: 1, Lend: 100, Borrow: -1}}, 3)
		l[place] = api.Level{Shares: 1}
		b, _ := bounds.Bounds(30, l)
		for _, d := range [][]api.Demand{of(0, 0, 0), of(9, 0, 0), of(0, 9, 0), of(0, 0, 9), of(api.MaxWant, api.MaxWant, 0), of(1, 2, 3)} {
			limits, e := borrow.Limits(30, b, d)
			if e != api.OK || limits[place] != 10 || sum(limits) != 30 {
				t.Errorf("Limits(30, %v, %v) = %v, error %d", b, d, limits, e)
			}
		}
	}
}

// Rule 3: what is handed in stays as it was, its spare room, too; rule 4: and the answers are the same again.
func TestNothingIsChanged(t *testing.T) {
	r := seed
	for range 2000 {
		total, b, d := r.handed()
		wholeB, wholeD := append(slices.Clip(b), bound(1, 2, 3), bound(-4, -5, -6)), append(slices.Clip(d), api.Demand{High: 7, Smooth: 8})
		beforeB, beforeD := slices.Clone(wholeB), slices.Clone(wholeD)
		b, d = wholeB[:len(b)], wholeD[:len(d)]
		first, e := borrow.Limits(total, b, d)
		wholeL := append(slices.Clone(first), 99, -99)
		beforeL := slices.Clone(wholeL)
		lent, borrowed := borrow.Lent(b, wholeL[:len(first)])
		for range 3 {
			borrow.Limits(5, list(bound(1, 2, 3), bound(1, 2, 3)), of(4, 5))
			if again, e2 := borrow.Limits(total, b, d); e != e2 || !slices.Equal(first, again) {
				t.Fatalf("%v, error %d; then %v, error %d", first, e, again, e2)
			}
			lends(t, b, wholeL[:len(first)], lent, borrowed)
		}
		if !slices.Equal(wholeB, beforeB) || !slices.Equal(wholeD, beforeD) || !slices.Equal(wholeL, beforeL) {
			t.Fatalf("%v, %v, %v were made of %v, %v, %v", wholeB, wholeD, wholeL, beforeB, beforeD, beforeL)
		}
	}
}

// Rule 3: an answer is new memory: written over, with its spare room, it changes no argument and no other answer; and
// no argument is kept: changed, it changes no answer.
func TestAnswersAreNew(t *testing.T) {
	for _, c := range []struct {
		b    []api.Bound
		d    []api.Demand
		want []int
	}{
		{list(bound(8, 4, 10), bound(2, 2, 10)), of(0, 9), []int{4, 6}},
		{list(bound(8, 8, 10), bound(2, 2, 10)), of(0, 9), []int{8, 2}},
		{list(bound(8, 0, 7), bound(2, 0, 3)), of(0, 9), []int{7, 3}},
	} {
		kept, _ := borrow.Limits(10, c.b, c.d)
		for range 3 {
			got, _ := borrow.Limits(10, c.b, c.d)
			whole := got[:cap(got)]
			for i := range whole {
				whole[i] = -1
			}
			are(t, 10, c.b, c.d, c.want...)
		}
		c.b[0], c.b[1], c.d[0], c.d[1] = bound(1, 1, 9), bound(9, 1, 9), api.Demand{Smooth: 5}, api.Demand{Smooth: 5}
		if !slices.Equal(kept, c.want) {
			t.Errorf("%v was made of %v", kept, c.want)
		}
	}
}
