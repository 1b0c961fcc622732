package split_test

import (
	"math"
	"math/big"
	"slices"
	"sort"
	"testing"

	"usher/api"
	"usher/split"
)

// same is n shares of one size.
func same(n, share int) []int {
	list := make([]int, n)
	for i := range list {
		list[i] = share
	}
	return list
}

// with is a list whose last one is another.
func with(list []int, last int) []int {
	list[len(list)-1] = last
	return list
}

// random are numbers below a bound, the same ones each time.
type random uint64

func (r *random) below(n int) int {
	x := uint64(*r)
	x ^= x << 13
	x ^= x >> 7
	x ^= x << 17
	*r = random(x)
	return int((x >> 11) % uint64(n))
}

// wantParts works out P2.1 in fractions: the quotas, then one more each in the order of what was lost.
func wantParts(total int, shares []int) []int {
	all := int64(0)
	for _, share := range shares {
		all += int64(share)
	}
	parts := make([]int, len(shares))
	lost := make([]*big.Rat, len(shares))
	order := make([]int, len(shares))
	left := total
	for i, share := range shares {
		quota := big.NewRat(int64(total)*int64(share), all)
		down := new(big.Int).Quo(quota.Num(), quota.Denom())
		parts[i] = int(down.Int64())
		lost[i] = new(big.Rat).Sub(quota, new(big.Rat).SetInt(down))
		order[i] = i
		left -= parts[i]
	}
	sort.SliceStable(order, func(a, b int) bool { return lost[order[a]].Cmp(lost[order[b]]) > 0 })
	for _, i := range order[:left] {
		parts[i]++
	}
	return parts
}

func mustSplit(t *testing.T, total int, shares []int) []int {
	t.Helper()
	parts, e := split.Split(total, shares)
	if e != api.OK {
		t.Fatalf("Split(%d, %v): error %d", total, shares, e)
	}
	if len(parts) != len(shares) {
		t.Fatalf("Split(%d, %v) = %v", total, shares, parts)
	}
	return parts
}

func checkSplit(t *testing.T, total int, shares []int) {
	t.Helper()
	if got, want := mustSplit(t, total, shares), wantParts(total, shares); !slices.Equal(got, want) {
		t.Fatalf("Split(%d, %v) = %v, not %v", total, shares, got, want)
	}
}

// checkLaws holds parts against P2.2.
func checkLaws(t *testing.T, total int, shares []int) {
	t.Helper()
	parts := mustSplit(t, total, shares)
	all, together := 0, 0
	for i, share := range shares {
		all += share
		together += parts[i]
	}
	if together != total {
		t.Fatalf("Split(%d, %v) = %v: together %d", total, shares, parts, together)
	}
	for i, share := range shares {
		if down := total * share / all; parts[i] < down || parts[i] > (total*share+all-1)/all {
			t.Fatalf("Split(%d, %v) = %v: part %d is not its quota, rounded down or up", total, shares, parts, i)
		}
		for j := range i {
			checkPair(t, shares, parts, j, i)
		}
	}
}

// checkPair holds two parts against each other: first stands ahead of second.
func checkPair(t *testing.T, shares, parts []int, first, second int) {
	t.Helper()
	more := parts[first] - parts[second]
	switch {
	case shares[first] > shares[second] && more < 0, shares[first] < shares[second] && more > 0:
		t.Fatalf("%v = %v: the greater share of %d and %d has the smaller part", shares, parts, first, second)
	case shares[first] == shares[second] && more != 0 && more != 1:
		t.Fatalf("%v = %v: of one share, %d has %d more than %d", shares, parts, first, more, second)
	}
}

// smallLists calls f with each list of at most n shares below bound, those that are all 0 left out.
func smallLists(n, bound int, f func([]int)) {
	var grow func(list []int)
	grow = func(list []int) {
		if slices.ContainsFunc(list, func(x int) bool { return x > 0 }) {
			f(list)
		}
		if len(list) == n {
			return
		}
		for share := range bound {
			grow(append(slices.Clone(list), share))
		}
	}
	grow(nil)
}

// mixedLists calls f with n totals and lists of shares of all sizes.
func mixedLists(n int, f func(total int, shares []int)) {
	r := random(88172645463325252)
	bounds := []int{2, 3, 10, 100, 1000, api.MaxShares + 1}
	totals := []int{2, 20, 300, api.MaxTotal + 1}
	for range n {
		bound := bounds[r.below(len(bounds))]
		shares := make([]int, 1+r.below(api.MaxLevels))
		for i := range shares {
			shares[i] = r.below(bound)
		}
		shares[r.below(len(shares))] = 1 + r.below(bound-1)
		f(r.below(totals[r.below(len(totals))]), shares)
	}
}

func TestChapterExamples(t *testing.T) {
	rows := []struct {
		total        int
		shares, want []int
	}{
		{10, []int{1, 1, 1}, []int{4, 3, 3}},
		{7, []int{50, 30, 20}, []int{4, 2, 1}},
		{3, []int{0, 5}, []int{0, 3}},
		{10, []int{3, 1}, []int{8, 2}},
	}
	for _, r := range rows {
		if got := mustSplit(t, r.total, r.shares); !slices.Equal(got, r.want) {
			t.Errorf("Split(%d, %v) = %v, not %v", r.total, r.shares, got, r.want)
		}
	}
	if parts, e := split.Split(5, []int{0, 0}); e != api.ErrNone || len(parts) != 0 {
		t.Errorf("Split(5, 0 0) = %v, error %d", parts, e)
	}
}

// P2.1: what is refused; of two faults the one that is named first.
func TestRefused(t *testing.T) {
	rows := []struct {
		name   string
		total  int
		shares []int
		want   api.Errno
	}{
		{"total below 0", -1, []int{1}, api.ErrArg},
		{"total above the most", api.MaxTotal + 1, []int{1}, api.ErrArg},
		{"least total", math.MinInt, []int{1}, api.ErrArg},
		{"greatest total", math.MaxInt, []int{1}, api.ErrArg},
		{"one share too many", 5, same(api.MaxLevels+1, 1), api.ErrLong},
		{"many shares too many", 5, same(1000, 1), api.ErrLong},
		{"share below 0", 5, []int{1, -1, 1}, api.ErrRange},
		{"share above the most", 5, []int{1, api.MaxShares + 1, 1}, api.ErrRange},
		{"first share below 0", 5, []int{-1, 1}, api.ErrRange},
		{"last share above the most", 5, with(same(api.MaxLevels, 1), api.MaxShares+1), api.ErrRange},
		{"least share", 5, []int{1, math.MinInt}, api.ErrRange},
		{"greatest share", 5, []int{1, math.MaxInt}, api.ErrRange},
		{"share of -1 alone", 0, []int{-1}, api.ErrRange},
		{"no shares", 5, nil, api.ErrNone},
		{"empty shares", 5, []int{}, api.ErrNone},
		{"one share of 0", 5, []int{0}, api.ErrNone},
		{"all shares 0", 5, same(api.MaxLevels, 0), api.ErrNone},
		{"nothing among none", 0, nil, api.ErrNone},
		{"nothing among shares of 0", 0, []int{0, 0}, api.ErrNone},
		{"the most among shares of 0", api.MaxTotal, []int{0, 0}, api.ErrNone},

		{"total and length", -1, same(api.MaxLevels+1, 1), api.ErrArg},
		{"total above, and length", api.MaxTotal + 1, same(api.MaxLevels+1, 1), api.ErrArg},
		{"total and share", api.MaxTotal + 1, []int{-1}, api.ErrArg},
		{"total and no shares", -1, nil, api.ErrArg},
		{"total and shares of 0", api.MaxTotal + 1, []int{0, 0}, api.ErrArg},
		{"all four", -1, with(same(api.MaxLevels+1, 0), -1), api.ErrArg},
		{"length and share", 5, with(same(api.MaxLevels+1, 1), -1), api.ErrLong},
		{"length and first share", 5, append([]int{api.MaxShares + 1}, same(api.MaxLevels, 1)...), api.ErrLong},
		{"length and shares of 0", 5, same(api.MaxLevels+1, 0), api.ErrLong},
		{"share, the others 0", 5, []int{0, 0, -1}, api.ErrRange},
		{"shares that are 0 together", 5, []int{7, -7}, api.ErrRange},
		{"shares that wrap round to 0", 5, []int{math.MinInt, math.MinInt}, api.ErrRange},
	}
	for _, r := range rows {
		if parts, e := split.Split(r.total, r.shares); e != r.want || len(parts) != 0 {
			t.Errorf("%s: Split(%d, %v) = %v, error %d, not %d", r.name, r.total, r.shares, parts, e, r.want)
		}
	}
}

// P2.1: the last ones that are taken.
func TestTakenAtTheEdges(t *testing.T) {
	rows := []struct {
		total        int
		shares, want []int
	}{
		{0, []int{4}, []int{0}},
		{0, []int{1, 2, 3}, []int{0, 0, 0}},
		{0, same(api.MaxLevels, api.MaxShares), same(api.MaxLevels, 0)},
		{1, []int{1}, []int{1}},
		{api.MaxTotal, []int{1}, []int{api.MaxTotal}},
		{api.MaxTotal, []int{api.MaxShares}, []int{api.MaxTotal}},
		{api.MaxTotal, same(api.MaxLevels, 1), same(api.MaxLevels, 256)},
		{api.MaxTotal, same(api.MaxLevels, api.MaxShares), same(api.MaxLevels, 256)},
		{api.MaxTotal, with(same(api.MaxLevels, 0), 1), with(same(api.MaxLevels, 0), api.MaxTotal)},
		{api.MaxTotal, []int{api.MaxShares, 1}, []int{api.MaxTotal, 0}},
		{api.MaxTotal, []int{1, api.MaxShares}, []int{0, api.MaxTotal}},
		{api.MaxTotal, []int{api.MaxShares, 0, api.MaxShares}, []int{2048, 0, 2048}},
	}
	for _, r := range rows {
		if got := mustSplit(t, r.total, r.shares); !slices.Equal(got, r.want) {
			t.Errorf("Split(%d, %v) = %v, not %v", r.total, r.shares, got, r.want)
		}
	}
}

// P2.1: what is left over goes by what was lost, not by what one has; of the same the first ones.
func TestWhoHasWhatIsLeftOver(t *testing.T) {
	rows := []struct {
		name         string
		total        int
		shares, want []int
	}{
		{"nothing left", 6, []int{1, 2, 3}, []int{1, 2, 3}},
		{"same rests, one left", 1, []int{5, 5, 5}, []int{1, 0, 0}},
		{"same rests, two left", 2, []int{5, 5, 5}, []int{1, 1, 0}},
		{"same rests, all but one left", 15, same(16, 9), with(same(16, 1), 0)},
		{"same rests of other shares", 10, []int{1, 3}, []int{3, 7}},
		{"same rests, the greater share ahead", 10, []int{3, 1}, []int{8, 2}},
		{"same rests behind one that lost nothing", 5, []int{0, 1, 1}, []int{0, 3, 2}},
		{"same rests behind a whole quota", 10, []int{12, 5, 3}, []int{6, 3, 1}},
		{"same rests, the smallest share ahead", 10, []int{3, 5, 12}, []int{2, 2, 6}},
		{"the smallest share lost most", 10, []int{62, 21, 17}, []int{6, 2, 2}},
		{"the smallest share lost most, and stands first", 10, []int{17, 62, 21}, []int{2, 6, 2}},
		{"the greatest share lost least", 4, []int{2, 1, 1, 1}, []int{1, 1, 1, 1}},
		{"two lost most, the first lost least", 2, []int{10, 45, 45}, []int{0, 1, 1}},
		{"a share of 0 has nothing", 3, []int{0, 7, 0, 7, 0}, []int{0, 2, 0, 1, 0}},
		{"fewer seats than shares", 1, []int{1, 2, 1}, []int{0, 1, 0}},
		{"rests next to each other", 100, []int{3333, 3334, 3333}, []int{33, 34, 33}},
	}
	for _, r := range rows {
		if got := mustSplit(t, r.total, r.shares); !slices.Equal(got, r.want) {
			t.Errorf("%s: Split(%d, %v) = %v, not %v", r.name, r.total, r.shares, got, r.want)
		}
	}
}

// P2.1, P2.2
func TestSmallLists(t *testing.T) {
	smallLists(4, 6, func(shares []int) {
		for total := range 24 {
			checkSplit(t, total, shares)
			checkLaws(t, total, shares)
		}
	})
}

// P2.1, P2.2
func TestMixedLists(t *testing.T) {
	mixedLists(20000, func(total int, shares []int) {
		checkSplit(t, total, shares)
		checkLaws(t, total, shares)
	})
}

// P2.1, P2.2
func TestEveryTotal(t *testing.T) {
	lists := [][]int{
		{1, 1, 1},
		{50, 30, 20},
		{api.MaxShares, api.MaxShares - 1, 1, 0},
		{7, 11, 13, 17, 19, 23, 29, 31, 37, 41, 43, 47, 53, 59, 61, 67},
		with(same(api.MaxLevels, api.MaxShares), 1),
	}
	for _, shares := range lists {
		for total := range api.MaxTotal + 1 {
			checkSplit(t, total, shares)
			checkLaws(t, total, shares)
		}
	}
}

// P2.1: the shares stay as they are, and their spare room too; the parts are in new memory.
func TestSharesStayAsTheyAre(t *testing.T) {
	room := []int{50, 30, 20, 77, 78, 79}
	shares := room[:3]
	first := mustSplit(t, 7, shares)
	second := mustSplit(t, 7, shares)
	for i := range first[:cap(first)] {
		first[:cap(first)][i] = -5
	}
	if want := []int{50, 30, 20, 77, 78, 79}; !slices.Equal(room, want) {
		t.Errorf("shares and spare room: %v, not %v", room, want)
	}
	if want := []int{4, 2, 1}; !slices.Equal(second, want) {
		t.Errorf("the second answer: %v, not %v", second, want)
	}
}

// P2.1: what is refused stays as it is, too.
func TestRefusedSharesStayAsTheyAre(t *testing.T) {
	lists := [][]int{{5, -1, 3}, {5, api.MaxShares + 1, 3}, {0, 0}, same(api.MaxLevels+1, 2)}
	for _, shares := range lists {
		before := slices.Clone(shares)
		if _, e := split.Split(7, shares); e == api.OK {
			t.Errorf("Split(7, %v): no error", before)
		}
		if !slices.Equal(shares, before) {
			t.Errorf("shares: %v, not %v", shares, before)
		}
	}
}
