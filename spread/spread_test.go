package spread_test

import (
	"math"
	"slices"
	"sort"
	"testing"

	"usher/api"
	"usher/spread"
)

// given is what a call is handed.
type given struct {
	total        int
	lo, hi, want []int
}

// same is n numbers of one size.
func same(n, x int) []int {
	list := make([]int, n)
	for i := range list {
		list[i] = x
	}
	return list
}

// with is a list whose last one is another.
func with(list []int, last int) []int {
	list[len(list)-1] = last
	return list
}

func sum(list []int) int {
	all := 0
	for _, x := range list {
		all += x
	}
	return all
}

// random are numbers below a bound, the same ones each time.
type random uint64

func (r *random) below(n int) int {
	x := uint64(*r)
	x ^= x << 13
	x ^= x >> 7
	x ^= x << 17
	*r = random(x)
	return int((x >> 11) % uint64(n))
}

func (r *random) among(list ...int) int { return list[r.below(len(list))] }

// wantParts works out P3.1 by one sorting: each one that might be handed to somebody, by what its owner has with it for what it wants.
func wantParts(g given) []int {
	type piece struct{ owner, part, want int64 }
	var pieces []piece
	for i := range g.lo {
		for part := g.lo[i] + 1; part <= g.hi[i]; part++ {
			pieces = append(pieces, piece{int64(i), int64(part), int64(g.want[i]) + 1})
		}
	}
	sort.SliceStable(pieces, func(a, b int) bool {
		return pieces[a].part*pieces[b].want < pieces[b].part*pieces[a].want
	})
	parts := make([]int, len(g.lo))
	copy(parts, g.lo)
	for _, p := range pieces[:g.total-sum(g.lo)] {
		parts[p.owner]++
	}
	return parts
}

func mustSpread(t *testing.T, g given) []int {
	t.Helper()
	parts, e := spread.Spread(g.total, g.lo, g.hi, g.want)
	if e != api.OK {
		t.Fatalf("Spread(%v): error %d", g, e)
	}
	if len(parts) != len(g.lo) {
		t.Fatalf("Spread(%v) = %v", g, parts)
	}
	return parts
}

func checkSpread(t *testing.T, g given) {
	t.Helper()
	if got, want := mustSpread(t, g), wantParts(g); !slices.Equal(got, want) {
		t.Fatalf("Spread(%v) = %v, not %v", g, got, want)
	}
}

// checkBalance holds parts against P3.2.
func checkBalance(t *testing.T, g given) {
	t.Helper()
	parts := mustSpread(t, g)
	if sum(parts) != g.total {
		t.Fatalf("Spread(%v) = %v: together %d", g, parts, sum(parts))
	}
	for i := range parts {
		if parts[i] < g.lo[i] || parts[i] > g.hi[i] {
			t.Fatalf("Spread(%v) = %v: part %d is outside its bounds", g, parts, i)
		}
		for j := range parts {
			if i == j || parts[i] == g.lo[i] || parts[j] == g.hi[j] {
				continue
			}
			if parts[i]*(g.want[j]+1) > (parts[j]+1)*(g.want[i]+1) {
				t.Fatalf("Spread(%v) = %v: %d has too much beside %d", g, parts, i, j)
			}
		}
	}
}

// checkOneMore holds the parts of a total, and of one more, against P3.3.
func checkOneMore(t *testing.T, g given) {
	t.Helper()
	more := g
	more.total++
	if more.total > min(sum(g.hi), api.MaxTotal) {
		return
	}
	parts, next := mustSpread(t, g), mustSpread(t, more)
	greater := 0
	for i := range parts {
		switch next[i] - parts[i] {
		case 0:
		case 1:
			greater++
		default:
			t.Fatalf("Spread(%v) = %v, with one more %v", g, parts, next)
		}
	}
	if greater != 1 {
		t.Fatalf("Spread(%v) = %v, with one more %v: %d are greater", g, parts, next, greater)
	}
}

func checkAll(t *testing.T, g given) {
	t.Helper()
	checkSpread(t, g)
	checkBalance(t, g)
	checkOneMore(t, g)
}

// smallOnes calls f with lists of at most n entries of small numbers, and each total that they may have.
func smallOnes(n int, f func(given)) {
	var grow func(g given)
	grow = func(g given) {
		for g.total = sum(g.lo); g.total <= sum(g.hi); g.total++ {
			f(g)
		}
		if len(g.lo) == n {
			return
		}
		for lo := range 3 {
			for hi := lo; hi <= 4; hi++ {
				for want := range 4 {
					grow(given{
						lo:   append(slices.Clone(g.lo), lo),
						hi:   append(slices.Clone(g.hi), hi),
						want: append(slices.Clone(g.want), want),
					})
				}
			}
		}
	}
	grow(given{})
}

// mixedOnes calls f with n totals and lists of all sizes.
func mixedOnes(n int, f func(given)) {
	r := random(88172645463325252)
	for range n {
		count := 1 + r.below(api.MaxLevels)
		most := r.among(3, 10, 100, api.MaxTotal/count)
		wants := r.among(1, 2, 10, 100, api.MaxTotal, api.MaxWant+1)
		var g given
		for range count {
			lo := r.below(1 + r.below(most+1))
			g.lo = append(g.lo, lo)
			g.hi = append(g.hi, lo+r.below(1+most-lo))
			g.want = append(g.want, r.below(wants))
		}
		if r.below(4) == 0 {
			g.hi[r.below(count)] = api.MaxTotal
		}
		least, greatest := sum(g.lo), min(sum(g.hi), api.MaxTotal)
		g.total = least + r.below(1+greatest-least)
		f(g)
	}
}

func TestChapterExamples(t *testing.T) {
	rows := []struct {
		given given
		want  []int
	}{
		{given{10, []int{0, 0}, []int{10, 10}, []int{9, 4}}, []int{7, 3}},
		{given{10, []int{0, 4}, []int{10, 10}, []int{9, 4}}, []int{6, 4}},
		{given{3, []int{0, 0, 0}, []int{1, 1, 9}, []int{0, 0, 0}}, []int{1, 1, 1}},
		{given{0, nil, nil, nil}, nil},
	}
	for _, r := range rows {
		if got := mustSpread(t, r.given); !slices.Equal(got, r.want) {
			t.Errorf("Spread(%v) = %v, not %v", r.given, got, r.want)
		}
	}
}

func checkRefused(t *testing.T, name string, g given, want api.Errno) {
	t.Helper()
	if parts, e := spread.Spread(g.total, g.lo, g.hi, g.want); e != want || len(parts) != 0 {
		t.Errorf("%s: Spread(%v) = %v, error %d, not %d", name, g, parts, e, want)
	}
}

// P3.1: a total outside its bounds, lists that don't go together, too many entries.
func TestRefusedAsAWhole(t *testing.T) {
	one, two := []int{1}, []int{1, 1}
	rows := []struct {
		name  string
		given given
		want  api.Errno
	}{
		{"total below 0", given{-1, one, one, one}, api.ErrArg},
		{"total above the most", given{api.MaxTotal + 1, one, one, one}, api.ErrArg},
		{"least total", given{math.MinInt, one, one, one}, api.ErrArg},
		{"greatest total", given{math.MaxInt, one, one, one}, api.ErrArg},
		{"total below 0 of none", given{-1, nil, nil, nil}, api.ErrArg},
		{"total above the most, and hi enough for it", given{api.MaxTotal + 1, same(2, 0), same(2, api.MaxTotal), same(2, 0)}, api.ErrArg},

		{"lo longer", given{1, two, one, one}, api.ErrForm},
		{"hi longer", given{1, one, two, one}, api.ErrForm},
		{"want longer", given{1, one, one, two}, api.ErrForm},
		{"lo shorter", given{2, one, two, two}, api.ErrForm},
		{"hi shorter", given{2, two, one, two}, api.ErrForm},
		{"want shorter", given{2, two, two, one}, api.ErrForm},
		{"no lo", given{1, nil, one, one}, api.ErrForm},
		{"no hi", given{1, one, nil, one}, api.ErrForm},
		{"no want", given{1, one, one, nil}, api.ErrForm},
		{"lo alone", given{1, one, nil, nil}, api.ErrForm},
		{"hi alone", given{1, nil, one, nil}, api.ErrForm},
		{"want alone", given{0, nil, nil, one}, api.ErrForm},
		{"three lengths", given{1, nil, one, two}, api.ErrForm},

		{"one entry too many", given{17, same(17, 1), same(17, 1), same(17, 1)}, api.ErrLong},
		{"many entries too many", given{5, same(1000, 0), same(1000, 1), same(1000, 1)}, api.ErrLong},
	}
	for _, r := range rows {
		checkRefused(t, r.name, r.given, r.want)
	}
}

// P3.1: an entry outside its bounds, wherever it stands.
func TestRefusedEntries(t *testing.T) {
	rows := []struct {
		name         string
		lo, hi, want int
	}{
		{"lo just below 0", -1, 1, 1},
		{"least lo", math.MinInt, 1, 1},
		{"lo and hi below 0", -1, -1, 1},
		{"lo below 0, hi below lo", -1, -2, 1},
		{"hi just below lo", 1, 0, 1},
		{"hi just below a greater lo", 5, 4, 1},
		{"hi below 0", 0, -1, 1},
		{"least hi", 0, math.MinInt, 1},
		{"hi just above the most", 0, api.MaxTotal + 1, 1},
		{"greatest hi", 0, math.MaxInt, 1},
		{"lo and hi just above the most", api.MaxTotal + 1, api.MaxTotal + 1, 1},
		{"lo above the most", api.MaxTotal + 1, api.MaxTotal, 1},
		{"greatest lo", math.MaxInt, 1, 1},
		{"greatest lo and hi", math.MaxInt, math.MaxInt, 1},
		{"want just below 0", 0, 1, -1},
		{"least want", 0, 1, math.MinInt},
		{"want just above the most", 0, 1, api.MaxWant + 1},
		{"greatest want", 0, 1, math.MaxInt},
		{"lo and want", -1, 1, -1},
	}
	for _, r := range rows {
		for _, count := range []int{1, 2, api.MaxLevels} {
			for at := range count {
				g := given{1, same(count, 0), same(count, 2), same(count, 3)}
				g.lo[at], g.hi[at], g.want[at] = r.lo, r.hi, r.want
				checkRefused(t, r.name, g, api.ErrRange)
			}
		}
	}
}

// P3.1: a total that can't be reached between the bounds.
func TestRefusedTotals(t *testing.T) {
	rows := []struct {
		name  string
		given given
	}{
		{"one among none", given{1, nil, nil, nil}},
		{"one among empty lists", given{1, []int{}, []int{}, []int{}}},
		{"the most among none", given{api.MaxTotal, nil, nil, nil}},
		{"lo just above the total", given{0, []int{1}, []int{1}, []int{0}}},
		{"lo together just above the total", given{9, []int{4, 6}, []int{9, 9}, []int{5, 5}}},
		{"lo together far above the total", given{api.MaxTotal, same(16, api.MaxTotal), same(16, api.MaxTotal), same(16, 0)}},
		{"lo together just above the most", given{api.MaxTotal, []int{api.MaxTotal, 1}, []int{api.MaxTotal, 1}, []int{0, 0}}},
		{"hi just below the total", given{1, []int{0}, []int{0}, []int{0}}},
		{"hi together just below the total", given{11, []int{0, 0}, []int{4, 6}, []int{5, 5}}},
		{"hi together just below the most", given{api.MaxTotal, []int{0, 0}, []int{api.MaxTotal - 2, 1}, []int{5, 5}}},
		{"lo is hi, and below the total", given{11, []int{4, 6}, []int{4, 6}, []int{5, 5}}},
		{"lo is hi, and above the total", given{9, []int{4, 6}, []int{4, 6}, []int{5, 5}}},
	}
	for _, r := range rows {
		checkRefused(t, r.name, r.given, api.ErrNone)
	}
}

// P3.1: of two faults the one that is named first.
func TestRefusedForTheFirst(t *testing.T) {
	one, two := []int{1}, []int{1, 1}
	long := func(x int) []int { return same(api.MaxLevels+1, x) }
	rows := []struct {
		name  string
		given given
		want  api.Errno
	}{
		{"total and lengths", given{-1, two, one, one}, api.ErrArg},
		{"total above, and lengths", given{api.MaxTotal + 1, one, two, one}, api.ErrArg},
		{"total and count", given{-1, long(0), long(1), long(1)}, api.ErrArg},
		{"total and lo", given{-1, []int{-1}, one, one}, api.ErrArg},
		{"total above, and want", given{api.MaxTotal + 1, one, one, []int{-1}}, api.ErrArg},
		{"total below all lo", given{-1, one, one, one}, api.ErrArg},
		{"total above all hi", given{api.MaxTotal + 1, one, one, one}, api.ErrArg},
		{"all five", given{-1, with(long(0), -1), long(0), with(long(0), -1)[:16]}, api.ErrArg},

		{"lengths and count", given{5, long(0), long(1), same(16, 1)}, api.ErrForm},
		{"lengths and count of want", given{5, same(16, 0), same(16, 1), long(1)}, api.ErrForm},
		{"lengths and lo", given{5, []int{-1}, two, two}, api.ErrForm},
		{"lengths and hi", given{5, []int{0}, []int{api.MaxTotal + 1}, nil}, api.ErrForm},
		{"lengths and want", given{5, two, []int{9, 9}, []int{-1}}, api.ErrForm},
		{"lengths and all lo", given{0, two, two, one}, api.ErrForm},
		{"lengths and all hi", given{5, one, two, two}, api.ErrForm},

		{"count and lo", given{5, with(long(0), -1), long(1), long(1)}, api.ErrLong},
		{"count and hi", given{5, long(0), with(long(1), api.MaxTotal+1), long(1)}, api.ErrLong},
		{"count and want", given{5, long(0), long(1), with(long(1), -1)}, api.ErrLong},
		{"count and all lo", given{5, long(1), long(1), long(1)}, api.ErrLong},
		{"count and all hi", given{50, long(1), long(1), long(1)}, api.ErrLong},

		{"want, and lo above the total", given{0, one, one, []int{-1}}, api.ErrRange},
		{"want, and hi below the total", given{5, one, one, []int{api.MaxWant + 1}}, api.ErrRange},
		{"lo, and hi below the total", given{5, []int{-1}, one, one}, api.ErrRange},
		{"hi below lo, lo above the total", given{1, []int{2}, []int{1}, []int{0}}, api.ErrRange},
		{"hi, and lo above the total", given{1, []int{2}, []int{api.MaxTotal + 1}, []int{0}}, api.ErrRange},
		{"last hi, and first lo above the total", given{1, []int{2, 0}, []int{3, -1}, []int{0, 0}}, api.ErrRange},
		{"lo that are the total together", given{1, []int{-1, 2}, []int{3, 3}, []int{0, 0}}, api.ErrRange},
		{"lo that wrap round to 0", given{0, []int{math.MinInt, math.MinInt}, two, two}, api.ErrRange},
		{"hi that wrap round", given{5, []int{0, 0}, []int{math.MaxInt, math.MaxInt}, two}, api.ErrRange},
	}
	for _, r := range rows {
		checkRefused(t, r.name, r.given, r.want)
	}
}

// P3.1: the last ones that are taken.
func TestTakenAtTheEdges(t *testing.T) {
	const most = api.MaxTotal
	rows := []struct {
		name  string
		given given
		want  []int
	}{
		{"empty lists", given{0, []int{}, nil, []int{}}, nil},
		{"total of 0", given{0, []int{0}, []int{0}, []int{0}}, []int{0}},
		{"total of 0 below hi", given{0, same(16, 0), same(16, most), same(16, 1)}, same(16, 0)},
		{"total of 1", given{1, []int{0}, []int{1}, []int{0}}, []int{1}},
		{"all to one", given{most, []int{0}, []int{most}, []int{0}}, []int{most}},
		{"all to one that wants the most", given{most, []int{0}, []int{most}, []int{api.MaxWant}}, []int{most}},
		{"lo of the most", given{most, []int{most}, []int{most}, []int{0}}, []int{most}},
		{"lo of the most, and nothing for the other", given{most, []int{0, most}, []int{most, most}, []int{api.MaxWant, 0}}, []int{0, most}},
		{"as many as there may be", given{most, same(16, 0), same(16, most), same(16, 7)}, same(16, 256)},
		{"as many as there may be, wanting the most", given{most, same(16, 0), same(16, most), same(16, api.MaxWant)}, same(16, 256)},
		{"as many as there may be, wanting nothing", given{most, same(16, 0), same(16, most), same(16, 0)}, same(16, 256)},
		{"all lo together just the total", given{10, []int{4, 6}, []int{9, 9}, []int{0, 50}}, []int{4, 6}},
		{"all lo together one less than the total", given{11, []int{4, 6}, []int{9, 9}, []int{0, 50}}, []int{4, 7}},
		{"all hi together just the total", given{10, []int{0, 0}, []int{4, 6}, []int{50, 0}}, []int{4, 6}},
		{"all hi together one more than the total", given{9, []int{0, 0}, []int{4, 6}, []int{50, 0}}, []int{4, 5}},
		{"lo is hi", given{10, []int{4, 6}, []int{4, 6}, []int{1, 1}}, []int{4, 6}},
		{"one whose lo is hi", given{10, []int{4, 0}, []int{4, 9}, []int{99, 0}}, []int{4, 6}},
		{"nothing wanted beside the most wanted", given{most, []int{0, 0}, []int{most, most}, []int{0, api.MaxWant}}, []int{0, most}},
		{"the most wanted beside nothing wanted", given{most, []int{0, 0}, []int{most, most}, []int{api.MaxWant, 0}}, []int{most, 0}},
		{"the most wanted, up to its hi", given{most, []int{0, 0}, []int{most - 1, most}, []int{api.MaxWant, 0}}, []int{most - 1, 1}},
	}
	for _, r := range rows {
		if got := mustSpread(t, r.given); !slices.Equal(got, r.want) {
			t.Errorf("%s: Spread(%v) = %v, not %v", r.name, r.given, got, r.want)
		}
	}
}

// P3.1: who has one more: by what it has and what it wants, of the same the first.
func TestWhoHasOneMore(t *testing.T) {
	rows := []struct {
		name  string
		given given
		want  []int
	}{
		{"the same, one to hand out", given{1, same(3, 0), same(3, 5), same(3, 2)}, []int{1, 0, 0}},
		{"the same, two to hand out", given{2, same(3, 0), same(3, 5), same(3, 2)}, []int{1, 1, 0}},
		{"the same, one each and one more", given{4, same(3, 0), same(3, 5), same(3, 2)}, []int{2, 1, 1}},
		{"the same for nothing wanted", given{2, same(3, 0), same(3, 5), same(3, 0)}, []int{1, 1, 0}},
		{"the same quotient of other wants, the smaller ahead", given{2, same(2, 0), same(2, 9), []int{0, 1}}, []int{1, 1}},
		{"the same quotient of other wants, the greater ahead", given{2, same(2, 0), same(2, 9), []int{1, 0}}, []int{2, 0}},
		{"the same quotient, the first at its hi", given{2, same(3, 0), []int{0, 9, 9}, same(3, 4)}, []int{0, 1, 1}},
		{"the same quotient, the first one full on the way", given{7, same(3, 0), []int{1, 9, 9}, same(3, 4)}, []int{1, 3, 3}},
		{"wants that differ by one", given{3, same(2, 0), same(2, 9), []int{2, 3}}, []int{1, 2}},
		{"great wants that differ by one", given{1, same(2, 0), same(2, 9), []int{api.MaxWant - 1, api.MaxWant}}, []int{0, 1}},
		{"quotients as near as may be, the first one less", given{4094, []int{2046, 2047}, same(2, 4096), []int{api.MaxWant - 512, api.MaxWant}}, []int{2047, 2047}},
		{"quotients as near as may be, the second one less", given{4094, []int{2047, 2046}, same(2, 4096), []int{api.MaxWant, api.MaxWant - 512}}, []int{2047, 2047}},
		{"what one has above another", given{6, []int{0, 5}, same(2, 9), []int{4, 4}}, []int{1, 5}},
		{"lo that is all that one wants", given{9, []int{0, 5}, same(2, 9), []int{4, 4}}, []int{4, 5}},
		{"the last wants most", given{4, same(4, 0), same(4, 9), []int{0, 0, 0, 9}}, []int{0, 0, 0, 4}},
		{"the one in the middle wants most", given{4, same(3, 0), same(3, 9), []int{1, 5, 0}}, []int{1, 3, 0}},
	}
	for _, r := range rows {
		if got := mustSpread(t, r.given); !slices.Equal(got, r.want) {
			t.Errorf("%s: Spread(%v) = %v, not %v", r.name, r.given, got, r.want)
		}
	}
}

// P3.1, P3.2, P3.3
func TestSmallOnes(t *testing.T) {
	smallOnes(2, func(g given) { checkAll(t, g) })
}

// P3.1, P3.2, P3.3
func TestMixedOnes(t *testing.T) {
	mixedOnes(3000, func(g given) { checkAll(t, g) })
}

// P3.1, P3.2, P3.3: each total from all lo together up to the most.
func TestEveryTotal(t *testing.T) {
	rows := []given{
		{0, []int{0, 3, 7}, []int{20, 30, 40}, []int{9, 4, 0}},
		{0, same(16, 1), with(same(16, 9), 200), []int{7, 11, 13, 17, 19, 23, 29, 31, 37, 41, 43, 47, 53, 59, 61, 67}},
		{0, []int{5, 0, 9, 2}, []int{5, 300, 9, 300}, []int{api.MaxWant, api.MaxWant - 1, 0, 1}},
	}
	for _, g := range rows {
		for g.total = sum(g.lo); g.total <= sum(g.hi); g.total++ {
			checkAll(t, g)
		}
	}
}

// P3.3: up to the greatest total there is.
func TestOneMoreUpToTheMost(t *testing.T) {
	g := given{0, []int{1000, 0, 90}, same(3, api.MaxTotal), []int{30, api.MaxWant, 777}}
	for g.total = api.MaxTotal - 20; g.total < api.MaxTotal; g.total++ {
		checkOneMore(t, g)
	}
	checkRefused(t, "one more than the most", given{api.MaxTotal + 1, g.lo, g.hi, g.want}, api.ErrArg)
}

// P3.1: the lists stay as they are, and their spare room too; the parts are in new memory.
func TestListsStayAsTheyAre(t *testing.T) {
	rooms := [][]int{{0, 4, 71, 72}, {10, 10, 81, 82}, {9, 4, 91, 92}}
	before := [][]int{slices.Clone(rooms[0]), slices.Clone(rooms[1]), slices.Clone(rooms[2])}
	g := given{10, rooms[0][:2], rooms[1][:2], rooms[2][:2]}
	first, second := mustSpread(t, g), mustSpread(t, g)
	for i := range first[:cap(first)] {
		first[:cap(first)][i] = -5
	}
	for i := range rooms {
		if !slices.Equal(rooms[i], before[i]) {
			t.Errorf("list %d and its spare room: %v, not %v", i, rooms[i], before[i])
		}
	}
	if want := []int{6, 4}; !slices.Equal(second, want) {
		t.Errorf("the second answer: %v, not %v", second, want)
	}
}

// P3.1: also where nothing is handed out beyond the lo, and one list is handed in three times.
func TestPartsAreNotTheLo(t *testing.T) {
	list := []int{4, 6}
	parts := mustSpread(t, given{10, list, list, list})
	parts[0], parts[1] = -5, -5
	if want := []int{4, 6}; !slices.Equal(list, want) {
		t.Errorf("the list: %v, not %v", list, want)
	}
}

// P3.1: what is refused stays as it is, too.
func TestRefusedListsStayAsTheyAre(t *testing.T) {
	rows := []given{
		{-1, []int{0, 1}, []int{3, 3}, []int{5, 5}},
		{4, []int{0, 1}, []int{3, 3}, []int{5}},
		{4, []int{0, 1}, []int{3, -3}, []int{5, 5}},
		{1, []int{0, 2}, []int{3, 3}, []int{5, 5}},
		{7, []int{0, 2}, []int{3, 3}, []int{5, 5}},
	}
	for _, g := range rows {
		lo, hi, want := slices.Clone(g.lo), slices.Clone(g.hi), slices.Clone(g.want)
		if _, e := spread.Spread(g.total, g.lo, g.hi, g.want); e == api.OK {
			t.Errorf("Spread(%v): no error", g)
		}
		if !slices.Equal(g.lo, lo) || !slices.Equal(g.hi, hi) || !slices.Equal(g.want, want) {
			t.Errorf("the lists: %v, not %v %v %v", g, lo, hi, want)
		}
	}
}
