package deal_test

import (
	"math"
	"math/big"
	"slices"
	"testing"

	"usher/api"
	"usher/deal"
)

// random are numbers, the same ones each time.
type random uint64

func (r *random) next() uint64 {
	x := uint64(*r)
	x ^= x << 13
	x ^= x >> 7
	x ^= x << 17
	*r = random(x)
	return x
}

func (r *random) below(n int) int { return int((r.next() >> 11) % uint64(n)) }

const seed = random(88172645463325252)

// hand is n unlike cards out of a deck.
func (r *random) hand(deck, n int) []int {
	var list []int
	for len(list) < n {
		if card := r.below(deck); !slices.Contains(list, card) {
			list = append(list, card)
		}
	}
	return list
}

// wantHands works out P7.1 by numbers without a bound.
func wantHands(deck, n int) (uint64, api.Errno) {
	switch {
	case deck < 1 || deck > 64 || n < 1 || n > 8:
		return 0, api.ErrArg
	case n > deck:
		return 0, api.ErrRange
	}
	all := new(big.Int).MulRange(int64(deck-n+1), int64(deck))
	if all.Cmp(big.NewInt(1<<40)) > 0 {
		return 0, api.ErrHand
	}
	return all.Uint64(), api.OK
}

// wantDeal counts, for each card, over those that are not taken yet.
func wantDeal(h uint64, deck, n int) []int {
	taken := make([]bool, deck)
	var hand []int
	for left := deck; left > deck-n; left-- {
		skip := h % uint64(left)
		h = (h - skip) / uint64(left)
		for card := range deck {
			if taken[card] {
				continue
			}
			if skip == 0 {
				taken[card] = true
				hand = append(hand, card)
				break
			}
			skip--
		}
	}
	return hand
}

func mustHands(t *testing.T, deck, n int) uint64 {
	t.Helper()
	all, e := deal.Hands(deck, n)
	if e != api.OK {
		t.Fatalf("Hands(%d, %d): error %d", deck, n, e)
	}
	return all
}

func mustDeal(t *testing.T, h uint64, deck, n int) []int {
	t.Helper()
	hand, e := deal.Deal(h, deck, n)
	if e != api.OK {
		t.Fatalf("Deal(%d, %d, %d): error %d", h, deck, n, e)
	}
	return hand
}

func checkDeal(t *testing.T, h uint64, deck, n int) {
	t.Helper()
	if got, want := mustDeal(t, h, deck, n), wantDeal(h, deck, n); !slices.Equal(got, want) {
		t.Fatalf("Deal(%d, %d, %d) = %v, want %v", h, deck, n, got, want)
	}
}

func checkWhich(t *testing.T, hand []int, deck int, want uint64) {
	t.Helper()
	if got, e := deal.Which(hand, deck); got != want || e != api.OK {
		t.Fatalf("Which(%v, %d) = %d, error %d, want %d", hand, deck, got, e, want)
	}
}

func refuseDeal(t *testing.T, h uint64, deck, n int, want api.Errno) {
	t.Helper()
	if hand, e := deal.Deal(h, deck, n); e != want || len(hand) != 0 {
		t.Errorf("Deal(%d, %d, %d) = %v, error %d, want error %d", h, deck, n, hand, e, want)
	}
}

func refuseWhich(t *testing.T, hand []int, deck int, want api.Errno) {
	t.Helper()
	if h, e := deal.Which(hand, deck); e != want || h != 0 {
		t.Errorf("Which(%v, %d) = %d, error %d, want error %d", hand, deck, h, e, want)
	}
}

// dealable goes through all decks and numbers of cards that may be dealt.
func dealable(yield func(deck, n int) bool) {
	for deck := 1; deck <= 64; deck++ {
		for n := 1; n <= 8; n++ {
			if _, e := wantHands(deck, n); e == api.OK && !yield(deck, n) {
				return
			}
		}
	}
}

// hashes are those at which a card, or the whole hand, begins anew.
func hashes(all uint64, deck, n int) []uint64 {
	list := []uint64{0, 1, 2, math.MaxInt64, math.MaxInt64 + 1, math.MaxUint64 - 1, math.MaxUint64}
	around := func(x uint64) { list = append(list, x-1, x, x+1) }
	part := uint64(1)
	for left := deck; left > deck-n; left-- {
		part *= uint64(left)
		around(part)
		around(2 * part)
	}
	last := math.MaxUint64 / all
	for _, times := range []uint64{1, 2, 3, 7, last / 2, last - 1, last} {
		around(times * all)
	}
	return list
}

// P7.1: numbers written out, those on both sides of 2^40 among them (none is just 2^40).
func TestHandsExamples(t *testing.T) {
	for _, c := range []struct {
		deck, n int
		want    uint64
		e       api.Errno
	}{
		{4, 2, 12, api.OK},
		{64, 8, 0, api.ErrHand},
		{1, 1, 1, api.OK},
		{2, 1, 2, api.OK},
		{2, 2, 2, api.OK},
		{64, 1, 64, api.OK},
		{64, 2, 4032, api.OK},
		{64, 6, 53981544960, api.OK},
		{8, 7, 40320, api.OK},
		{8, 8, 40320, api.OK},
		{9, 8, 362880, api.OK},
		{55, 7, 1022755734000, api.OK},
		{56, 7, 0, api.ErrHand},
		{35, 8, 948964262400, api.OK},
		{36, 8, 0, api.ErrHand},
		{63, 7, 0, api.ErrHand},
		{64, 7, 0, api.ErrHand},
	} {
		if got, e := deal.Hands(c.deck, c.n); got != c.want || e != c.e {
			t.Errorf("Hands(%d, %d) = %d, error %d, want %d, error %d", c.deck, c.n, got, e, c.want, c.e)
		}
	}
}

// P7.1: refusals, and which of two comes first.
func TestHandsRefuses(t *testing.T) {
	for _, c := range []struct {
		deck, n int
		want    api.Errno
	}{
		{0, 1, api.ErrArg},
		{-1, 1, api.ErrArg},
		{65, 1, api.ErrArg},
		{math.MinInt, 1, api.ErrArg},
		{math.MaxInt, 1, api.ErrArg},
		{4, 0, api.ErrArg},
		{4, -1, api.ErrArg},
		{64, 9, api.ErrArg},
		{9, 9, api.ErrArg},
		{64, math.MinInt, api.ErrArg},
		{64, math.MaxInt, api.ErrArg},
		{1, 2, api.ErrRange},
		{3, 4, api.ErrRange},
		{7, 8, api.ErrRange},
		{1, 8, api.ErrRange},
		// More than one.
		{0, 0, api.ErrArg},
		{-1, -2, api.ErrArg},
		{-2, -1, api.ErrArg},
		{0, 8, api.ErrArg},
		{0, 9, api.ErrArg},
		{8, 9, api.ErrArg},
		{1, 9, api.ErrArg},
		{65, 8, api.ErrArg},
		{65, 9, api.ErrArg},
		{65, 66, api.ErrArg},
		{1000, 8, api.ErrArg},
		{64, 10, api.ErrArg},
		{math.MinInt, math.MinInt, api.ErrArg},
		{math.MinInt, math.MaxInt, api.ErrArg},
		{math.MaxInt, math.MinInt, api.ErrArg},
		{math.MaxInt, math.MaxInt, api.ErrArg},
	} {
		if got, e := deal.Hands(c.deck, c.n); got != 0 || e != c.want {
			t.Errorf("Hands(%d, %d) = %d, error %d, want error %d", c.deck, c.n, got, e, c.want)
		}
		// P7.2
		refuseDeal(t, 0, c.deck, c.n, c.want)
		refuseDeal(t, math.MaxUint64, c.deck, c.n, c.want)
	}
}

// P7.1, and by it the errors of P7.2: all decks and numbers of cards, and some beyond.
func TestHandsAll(t *testing.T) {
	for deck := -3; deck <= 70; deck++ {
		for n := -3; n <= 70; n++ {
			want, refused := wantHands(deck, n)
			if got, e := deal.Hands(deck, n); got != want || e != refused {
				t.Errorf("Hands(%d, %d) = %d, error %d, want %d, error %d", deck, n, got, e, want, refused)
			}
			if refused != api.OK {
				refuseDeal(t, 5, deck, n, refused)
			}
		}
	}
}

// P7.1: as many hands as there are ways to lay the cards down.
func TestHandsAreAllThatCanBeLaid(t *testing.T) {
	for deck := 1; deck <= 7; deck++ {
		for n := 1; n <= deck; n++ {
			if got, want := mustHands(t, deck, n), uint64(len(laid(deck, n))); got != want {
				t.Errorf("Hands(%d, %d) = %d, want %d", deck, n, got, want)
			}
		}
	}
}

// laid are all hands of n cards.
func laid(deck, n int) [][]int {
	if n == 0 {
		return [][]int{nil}
	}
	var list [][]int
	for _, hand := range laid(deck, n-1) {
		for card := range deck {
			if !slices.Contains(hand, card) {
				list = append(list, append(slices.Clone(hand), card))
			}
		}
	}
	return list
}

// P7.2 and P7.3: hands written out.
func TestDealExamples(t *testing.T) {
	for _, c := range []struct {
		h       uint64
		deck, n int
		want    []int
		which   uint64
	}{
		{5, 4, 2, []int{1, 2}, 5},
		{0, 4, 2, []int{0, 1}, 0},
		{1, 4, 2, []int{1, 0}, 1},
		{4, 4, 2, []int{0, 2}, 4},
		{11, 4, 2, []int{3, 2}, 11},
		{12, 4, 2, []int{0, 1}, 0},
		{17, 4, 2, []int{1, 2}, 5},
		{0, 1, 1, []int{0}, 0},
		{7, 1, 1, []int{0}, 0},
		{math.MaxUint64, 1, 1, []int{0}, 0},
		{math.MaxUint64, 64, 1, []int{63}, 63},
		{63, 64, 1, []int{63}, 63},
		{64, 64, 1, []int{0}, 0},
		{0, 8, 8, []int{0, 1, 2, 3, 4, 5, 6, 7}, 0},
		{40319, 8, 8, []int{7, 6, 5, 4, 3, 2, 1, 0}, 40319},
		{40320, 8, 8, []int{0, 1, 2, 3, 4, 5, 6, 7}, 0},
		{0, 35, 8, []int{0, 1, 2, 3, 4, 5, 6, 7}, 0},
		{948964262399, 35, 8, []int{34, 33, 32, 31, 30, 29, 28, 27}, 948964262399},
		{948964262400, 35, 8, []int{0, 1, 2, 3, 4, 5, 6, 7}, 0},
		{math.MaxUint64, 10, 3, []int{5, 1, 0}, 15},
	} {
		if got := mustDeal(t, c.h, c.deck, c.n); !slices.Equal(got, c.want) {
			t.Errorf("Deal(%d, %d, %d) = %v, want %v", c.h, c.deck, c.n, got, c.want)
		}
		checkWhich(t, c.want, c.deck, c.which)
	}
}

// P7.2: each deck and number of cards, at the edges of the hash and of how many hands there are.
func TestDealEdges(t *testing.T) {
	for deck, n := range dealable {
		for _, h := range hashes(mustHands(t, deck, n), deck, n) {
			checkDeal(t, h, deck, n)
		}
	}
}

// P7.2
func TestDealMixed(t *testing.T) {
	r := seed
	for deck, n := range dealable {
		for range 100 {
			checkDeal(t, r.next(), deck, n)
			checkDeal(t, r.next()%mustHands(t, deck, n), deck, n)
		}
	}
}

// P7.2: the errors of Hands, whatever the hash.
func TestDealRefuses(t *testing.T) {
	for _, h := range []uint64{0, 1, 1 << 40, math.MaxUint64} {
		refuseDeal(t, h, 64, 8, api.ErrHand)
		refuseDeal(t, h, 36, 8, api.ErrHand)
		refuseDeal(t, h, 56, 7, api.ErrHand)
		refuseDeal(t, h, 3, 4, api.ErrRange)
		refuseDeal(t, h, 0, 1, api.ErrArg)
		refuseDeal(t, h, 4, 0, api.ErrArg)
		refuseDeal(t, h, 9, 9, api.ErrArg)
	}
}

// P7.3: refusals, and which of two comes first.
func TestWhichRefuses(t *testing.T) {
	for _, c := range []struct {
		hand []int
		deck int
		want api.Errno
	}{
		{nil, 4, api.ErrArg},
		{[]int{}, 4, api.ErrArg},
		{nil, 0, api.ErrArg},
		{[]int{0}, 0, api.ErrArg},
		{[]int{0}, -1, api.ErrArg},
		{[]int{0}, 65, api.ErrArg},
		{[]int{0}, math.MinInt, api.ErrArg},
		{[]int{0}, math.MaxInt, api.ErrArg},
		{[]int{0, 1, 2, 3, 4, 5, 6, 7, 8}, 9, api.ErrArg},
		{[]int{0, 1, 2, 3, 4, 5, 6, 7, 8}, 64, api.ErrArg},
		{[]int{0, 1, 2, 3, 4}, 4, api.ErrRange},
		{[]int{0, 1}, 1, api.ErrRange},
		{[]int{0, 1, 2, 3, 4, 5, 6, 7}, 7, api.ErrRange},
		{[]int{0, 1, 2, 3, 4, 5, 6, 7}, 64, api.ErrHand},
		{[]int{0, 1, 2, 3, 4, 5, 6, 7}, 36, api.ErrHand},
		{[]int{0, 1, 2, 3, 4, 5, 6}, 56, api.ErrHand},
		{[]int{-1}, 4, api.ErrRange},
		{[]int{4}, 4, api.ErrRange},
		{[]int{1}, 1, api.ErrRange},
		{[]int{64}, 64, api.ErrRange},
		{[]int{-1, 2}, 4, api.ErrRange},
		{[]int{2, -1}, 4, api.ErrRange},
		{[]int{1, 4}, 4, api.ErrRange},
		{[]int{4, 1}, 4, api.ErrRange},
		{[]int{0, 5, 1}, 4, api.ErrRange},
		{[]int{math.MinInt}, 64, api.ErrRange},
		{[]int{0, math.MaxInt}, 64, api.ErrRange},
		{[]int{1, 1}, 4, api.ErrTwice},
		{[]int{0, 0}, 2, api.ErrTwice},
		{[]int{3, 3}, 4, api.ErrTwice},
		{[]int{0, 1, 0}, 4, api.ErrTwice},
		{[]int{0, 1, 1}, 4, api.ErrTwice},
		{[]int{2, 2, 2}, 4, api.ErrTwice},
		{[]int{0, 1, 2, 3, 4, 5, 6, 0}, 35, api.ErrTwice},
		{[]int{0, 1, 2, 3, 4, 5, 6, 6}, 8, api.ErrTwice},
		// More than one.
		{[]int{0, 0}, 0, api.ErrArg},
		{[]int{70, 70}, 65, api.ErrArg},
		{[]int{-1}, 65, api.ErrArg},
		{[]int{0, 0, 0, 0, 0, 0, 0, 0, 0}, 64, api.ErrArg},
		{[]int{0, 1, 2, 3, 4, 5, 6, 7, 8}, 8, api.ErrArg},
		{[]int{0, 1, 2, 3, 4, 5, 6, 7, 99}, 64, api.ErrArg},
		{[]int{0, 0}, 1, api.ErrRange},
		{[]int{0, 0, 0}, 2, api.ErrRange},
		{[]int{0, 1, 2, 3, 4, 5, 6, 64}, 64, api.ErrHand},
		{[]int{0, 1, 2, 3, 4, 5, 6, -1}, 64, api.ErrHand},
		{[]int{0, 1, 2, 3, 4, 5, 6, 6}, 64, api.ErrHand},
		{[]int{1, 1, 4}, 4, api.ErrRange},
		{[]int{4, 1, 1}, 4, api.ErrRange},
		{[]int{1, 1, -1}, 4, api.ErrRange},
		{[]int{4, 4}, 4, api.ErrRange},
		{[]int{-1, -1}, 4, api.ErrRange},
	} {
		refuseWhich(t, c.hand, c.deck, c.want)
	}
}

// P7.3: lists of any length, of which those of 1 to 8 cards alone are looked at.
func TestWhichOfManyCards(t *testing.T) {
	for n := 9; n < 300; n++ {
		hand := make([]int, n)
		for i := range hand {
			hand[i] = i
		}
		refuseWhich(t, hand, 64, api.ErrArg)
		refuseWhich(t, hand, n, api.ErrArg)
	}
}

// wantWhich is the least h that deals a hand, found by dealing; what is no hand is refused.
func wantWhich(hand []int, deck int) (uint64, api.Errno) {
	all, e := wantHands(deck, len(hand))
	if e != api.OK {
		return 0, e
	}
	for h := range all {
		if slices.Equal(wantDeal(h, deck, len(hand)), hand) {
			return h, api.OK
		}
	}
	if slices.Min(hand) < 0 || slices.Max(hand) >= deck {
		return 0, api.ErrRange
	}
	return 0, api.ErrTwice
}

// lists are all of n numbers from -1 to deck.
func lists(deck, n int) [][]int {
	if n == 0 {
		return [][]int{nil}
	}
	var all [][]int
	for _, list := range lists(deck, n-1) {
		for card := -1; card <= deck; card++ {
			all = append(all, append(slices.Clone(list), card))
		}
	}
	return all
}

// P7.3: all lists of few cards, wrong ones too, each looked for among all hands.
func TestWhichSmall(t *testing.T) {
	for deck := 0; deck <= 5; deck++ {
		for n := 0; n <= min(deck+1, 4); n++ {
			for _, hand := range lists(deck, n) {
				want, refused := wantWhich(hand, deck)
				if got, e := deal.Which(hand, deck); got != want || e != refused {
					t.Fatalf("Which(%v, %d) = %d, error %d, want %d, error %d", hand, deck, got, e, want, refused)
				}
			}
		}
	}
}

// P7.3: a hand that was laid, not dealt: what is answered deals it, and none below how many hands there are does but that.
func TestWhichMixed(t *testing.T) {
	r := seed
	for deck, n := range dealable {
		all := mustHands(t, deck, n)
		for range 100 {
			hand := r.hand(deck, n)
			h, e := deal.Which(hand, deck)
			if e != api.OK || h >= all {
				t.Fatalf("Which(%v, %d) = %d, error %d, of %d hands", hand, deck, h, e, all)
			}
			if got := wantDeal(h, deck, n); !slices.Equal(got, hand) {
				t.Fatalf("Which(%v, %d) = %d, which deals %v", hand, deck, h, got)
			}
		}
	}
}

// P7.3: one card of a hand made wrong, at each place.
func TestWhichOneWrong(t *testing.T) {
	r := seed
	for deck, n := range dealable {
		for i := range n {
			hand := r.hand(deck, n)
			for _, card := range []int{-1, deck, deck + 1, math.MinInt, math.MaxInt} {
				wrong := slices.Clone(hand)
				wrong[i] = card
				refuseWhich(t, wrong, deck, api.ErrRange)
			}
			for j := range n {
				if j != i {
					wrong := slices.Clone(hand)
					wrong[i] = wrong[j]
					refuseWhich(t, wrong, deck, api.ErrTwice)
				}
			}
		}
	}
}

// P7.4: the laws, of one hash.
func checkLaws(t *testing.T, h uint64, deck, n int) {
	t.Helper()
	hand := mustDeal(t, h, deck, n)
	if len(hand) != n {
		t.Fatalf("Deal(%d, %d, %d) = %v", h, deck, n, hand)
	}
	for i, card := range hand {
		if card < 0 || card >= deck || slices.Contains(hand[:i], card) {
			t.Fatalf("Deal(%d, %d, %d) = %v", h, deck, n, hand)
		}
	}
	rest := h % mustHands(t, deck, n)
	if other := mustDeal(t, rest, deck, n); !slices.Equal(hand, other) {
		t.Fatalf("Deal(%d, %d, %d) = %v, but that of %d is %v", h, deck, n, hand, rest, other)
	}
	checkWhich(t, hand, deck, rest)
}

// P7.4
func TestLaws(t *testing.T) {
	r := seed
	for deck, n := range dealable {
		for _, h := range hashes(mustHands(t, deck, n), deck, n) {
			checkLaws(t, h, deck, n)
		}
		for range 50 {
			checkLaws(t, r.next(), deck, n)
		}
	}
}

// P7.4: each rest has a hand of its own, and round after round they are the same.
func TestEachRestHasItsHand(t *testing.T) {
	for deck, n := range dealable {
		all := mustHands(t, deck, n)
		if all > 10000 {
			continue
		}
		seen := map[[8]int]uint64{}
		for h := range all {
			checkLaws(t, h, deck, n)
			checkLaws(t, h+all, deck, n)
			var key [8]int
			copy(key[:], mustDeal(t, h, deck, n))
			if other, there := seen[key]; there {
				t.Fatalf("of %d cards, %d and %d deal %v", deck, other, h, key[:n])
			}
			seen[key] = h
		}
	}
}

// Rule 3: what is handed in is not changed, its spare room neither.
func TestWhichLeavesTheHand(t *testing.T) {
	for _, c := range []struct {
		hand []int
		deck int
	}{
		{[]int{3, 1, 2}, 4},
		{[]int{34, 0, 33, 1, 32, 2, 31, 3}, 35},
		{[]int{1, 3, 1}, 4},
		{[]int{3, 1, 4}, 4},
		{[]int{3, 1, 2}, 2},
		{[]int{8, 7, 6, 5, 4, 3, 2, 1, 0}, 9},
		{[]int{7, 6, 5, 4, 3, 2, 1, 0}, 64},
	} {
		room := append(slices.Clone(c.hand), -7, -8, -9)
		kept := slices.Clone(room)
		deal.Which(room[:len(c.hand)], c.deck)
		if !slices.Equal(room, kept) {
			t.Errorf("Which(%v, %d) left %v of %v", c.hand, c.deck, room, kept)
		}
	}
}

// Rule 3: each answer is new memory, its spare room too.
func TestHandsAreApart(t *testing.T) {
	for deck, n := range dealable {
		first := mustDeal(t, 5, deck, n)
		second := mustDeal(t, 5, deck, n)
		for _, list := range [][]int{first[:cap(first)], append(first, -1)} {
			for i := range list {
				list[i] = -9
			}
		}
		if want := wantDeal(5, deck, n); !slices.Equal(second, want) {
			t.Fatalf("Deal(5, %d, %d): a change of one hand left %v of the other, want %v", deck, n, second, want)
		}
		checkDeal(t, 5, deck, n)
	}
}

// Rule 4: an answer does not hang on what was asked ahead of it.
func TestOrderOfCallsDoesNotMatter(t *testing.T) {
	for h := uint64(30); h > 0; h-- {
		refuseDeal(t, h, 64, 8, api.ErrHand)
		refuseWhich(t, []int{1, 1}, 4, api.ErrTwice)
		checkDeal(t, h-1, 4, 2)
		checkWhich(t, wantDeal(h-1, 4, 2), 4, (h-1)%12)
	}
}
