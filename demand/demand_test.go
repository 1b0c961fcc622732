package demand_test

import (
	"math"
	"math/big"
	"testing"

	"usher/api"
	"usher/demand"
)

// random are numbers, the same ones each time.
type random uint64

func (r *random) next() uint64 {
	x := uint64(*r)
	x ^= x << 13
	x ^= x >> 7
	x ^= x << 17
	*r = random(x)
	return x
}

func (r *random) below(n int) int { return int((r.next() >> 11) % uint64(n)) }

func pick[T any](r *random, of ...T) T { return of[r.below(len(of))] }

const seed = random(88172645463325252)

// numbers are those about the edges, of any use, and such as look like others if their upper half is lost.
var numbers = [...]int{
	math.MinInt, math.MinInt + 1, -1 << 62, -1<<32 + 5, -1 << 32, -1 << 31, -api.MaxWant - 1, -api.MaxWant, -9, -2, -1,
	0, 1, 2, 3, 4, 5, 6, 7, 8, 9, 10, 99, 100, 1000, api.MaxWant / 4, 3 * api.MaxWant / 4, api.MaxWant/2 - 1, api.MaxWant / 2,
	api.MaxWant - 8, api.MaxWant - 5, api.MaxWant - 4, api.MaxWant - 3, api.MaxWant - 2, api.MaxWant - 1, api.MaxWant,
	api.MaxWant + 1, api.MaxWant + 2, 2 * api.MaxWant, 1<<31 - 1, 1 << 31, 1 << 32, 1<<32 + 5, 1 << 62, math.MaxInt - 1, math.MaxInt,
}

// edges are those that are taken each beside each.
var edges = [...]int{math.MinInt, -1, 0, 1, api.MaxWant - 1, api.MaxWant, api.MaxWant + 1, math.MaxInt}

// What follows is the chapter once more, by other means: numbers without an end, and a quarter that is found by
// looking for the least number of which four are enough.

func wantNumber(n int) int {
	switch x := big.NewInt(int64(n)); {
	case x.Sign() < 0:
		return 0
	case x.Cmp(new(big.Int).Lsh(big.NewInt(1), 20)) > 0:
		return 1 << 20
	}
	return n
}

// wantQuarter is the least number of which four are at least n.
func wantQuarter(n int) int {
	least, most := 0, n
	for least < most {
		middle := (least + most) / 2
		if 4*middle >= n {
			most = middle
		} else {
			least = middle + 1
		}
	}
	return least
}

func wantNote(d api.Demand, seats int) api.Demand {
	want := api.Demand{High: wantNumber(d.High), Smooth: wantNumber(d.Smooth)}
	if n := wantNumber(seats); n > want.High {
		want.High = n
	}
	return want
}

func wantTurn(d api.Demand, seats int) api.Demand {
	high, smooth := wantNumber(d.High), wantNumber(d.Smooth)
	if high < smooth {
		smooth -= wantQuarter(smooth - high)
	} else {
		smooth = high
	}
	return api.Demand{High: wantNumber(seats), Smooth: smooth}
}

func of(high, smooth int) api.Demand { return api.Demand{High: high, Smooth: smooth} }

// notes: what is noted of a demand is this.
func notes(t *testing.T, d api.Demand, seats int, want api.Demand) {
	t.Helper()
	if got := demand.Note(d, seats); got != want {
		t.Errorf("Note(%v, %d) = %v; want %v", d, seats, got, want)
	}
}

// turns: what a demand turns to is this.
func turns(t *testing.T, d api.Demand, seats int, want api.Demand) {
	t.Helper()
	if got := demand.Turn(d, seats); got != want {
		t.Errorf("Turn(%v, %d) = %v; want %v", d, seats, got, want)
	}
}

// holds: both calls answer what the chapter says.
func holds(t *testing.T, d api.Demand, seats int) {
	t.Helper()
	notes(t, d, seats, wantNote(d, seats))
	turns(t, d, seats, wantTurn(d, seats))
}

// P19.1, P19.2: the chapter's examples.
func TestExamples(t *testing.T) {
	notes(t, of(3, 9), 5, of(5, 9))
	turns(t, of(5, 9), 2, of(2, 8))
	turns(t, of(9, 5), 0, of(0, 9))
}

// P19.1: seats below, at and above High; Smooth stays, wherever it is.
func TestNote(t *testing.T) {
	for _, smooth := range []int{0, 1, 4, 5, 6, 9, 1000, api.MaxWant - 1, api.MaxWant} {
		for _, c := range []struct{ high, seats, want int }{
			{0, 0, 0}, {0, 1, 1}, {1, 0, 1}, {1, 1, 1}, {5, 0, 5}, {5, 4, 5}, {5, 5, 5}, {5, 6, 6}, {5, 100, 100},
			{0, api.MaxWant, api.MaxWant}, {api.MaxWant, 0, api.MaxWant}, {api.MaxWant - 1, api.MaxWant, api.MaxWant},
			{api.MaxWant, api.MaxWant - 1, api.MaxWant}, {api.MaxWant - 2, api.MaxWant - 1, api.MaxWant - 1},
			// Numbers that are none.
			{5, -1, 5}, {5, math.MinInt, 5}, {0, -1, 0}, {0, math.MinInt, 0}, {5, api.MaxWant + 1, api.MaxWant}, {5, math.MaxInt, api.MaxWant},
			{-1, 0, 0}, {-1, 5, 5}, {-1, -1, 0}, {-9, -5, 0}, {-5, -9, 0}, {math.MinInt, 0, 0}, {math.MinInt, 1, 1}, {math.MinInt, math.MinInt, 0},
			{api.MaxWant + 1, 0, api.MaxWant}, {api.MaxWant + 1, api.MaxWant + 2, api.MaxWant}, {math.MaxInt, -1, api.MaxWant},
			{math.MaxInt, math.MaxInt, api.MaxWant}, {1<<32 + 5, 1, api.MaxWant}, {1, 1<<32 + 5, api.MaxWant}, {1, -1<<32 + 5, 1},
		} {
			notes(t, of(c.high, smooth), c.seats, of(c.want, smooth))
		}
	}
}

// P19.1, P19.2: each number of a demand counts in both calls, also where nothing is done to it.
func TestNumbersThatStay(t *testing.T) {
	for _, c := range []struct{ given, counts int }{
		{math.MinInt, 0}, {math.MinInt + 1, 0}, {-1 << 32, 0}, {-1<<32 + 5, 0}, {-api.MaxWant, 0}, {-2, 0}, {-1, 0}, {0, 0}, {1, 1}, {2, 2}, {5, 5},
		{api.MaxWant - 1, api.MaxWant - 1}, {api.MaxWant, api.MaxWant}, {api.MaxWant + 1, api.MaxWant}, {api.MaxWant + 2, api.MaxWant},
		{1 << 32, api.MaxWant}, {1<<32 + 5, api.MaxWant}, {math.MaxInt - 1, api.MaxWant}, {math.MaxInt, api.MaxWant},
	} {
		// Smooth of a Note, with a High that is counted, too, and one that seats take the place of.
		notes(t, of(7, c.given), 3, of(7, c.counts))
		notes(t, of(7, c.given), 9, of(9, c.counts))
		notes(t, of(c.given, c.given), 0, of(c.counts, c.counts))
		// High of a Note to which seats add nothing.
		notes(t, of(c.given, 4), 0, of(c.counts, 4))
		notes(t, of(c.given, 4), -1, of(c.counts, 4))
		notes(t, of(c.given, 4), math.MinInt, of(c.counts, 4))
		notes(t, of(0, 4), c.given, of(c.counts, 4))
		// High of a Turn that becomes Smooth, Smooth that stays, and seats.
		turns(t, of(c.given, 0), 3, of(3, c.counts))
		turns(t, of(c.given, c.given), 3, of(3, c.counts))
		turns(t, of(c.counts, c.given), 3, of(3, c.counts))
		turns(t, of(c.given, c.counts), 3, of(3, c.counts))
		turns(t, of(6, 6), c.given, of(c.counts, 6))
	}
}

// P19.2: High below, at and above Smooth; it is taken as it is at once, if it is not below.
func TestTurn(t *testing.T) {
	for _, seats := range []int{0, 1, 5, 1000, api.MaxWant} {
		for _, c := range []struct{ high, smooth, want int }{
			{0, 0, 0}, {1, 0, 1}, {0, 1, 0}, {1, 1, 1}, {5, 4, 5}, {5, 5, 5}, {5, 6, 5}, {100, 5, 100}, {5, 105, 80}, {5, 100, 76},
			{4, 9, 7}, {5, 9, 8}, {6, 9, 8}, {7, 9, 8}, {8, 9, 8}, {9, 9, 9}, {10, 9, 10},
			{api.MaxWant, 0, api.MaxWant}, {api.MaxWant, api.MaxWant, api.MaxWant}, {api.MaxWant, api.MaxWant - 1, api.MaxWant},
			{api.MaxWant - 1, api.MaxWant, api.MaxWant - 1}, {api.MaxWant - 4, api.MaxWant, api.MaxWant - 1}, {api.MaxWant - 5, api.MaxWant, api.MaxWant - 2},
			{0, api.MaxWant, 3 << 18}, {0, api.MaxWant - 1, 3<<18 - 1}, {1, api.MaxWant, 3 << 18}, {2, api.MaxWant, 3 << 18}, {3, api.MaxWant, 3 << 18}, {4, api.MaxWant, 3<<18 + 1},
			// Numbers that are none, ahead of which is above which is asked.
			{-1, 0, 0}, {0, -1, 0}, {-9, -5, 0}, {-5, -9, 0}, {-5, 8, 6}, {math.MinInt, 8, 6}, {8, math.MinInt, 8}, {-1, 1, 0}, {math.MinInt, math.MinInt, 0},
			{math.MinInt, math.MaxInt, 3 << 18}, {math.MaxInt, math.MinInt, api.MaxWant}, {math.MaxInt, math.MaxInt, api.MaxWant},
			{api.MaxWant, api.MaxWant + 4, api.MaxWant}, {api.MaxWant + 1, api.MaxWant + 9, api.MaxWant}, {api.MaxWant - 4, api.MaxWant + 4, api.MaxWant - 1},
			{api.MaxWant, math.MaxInt, api.MaxWant}, {0, math.MaxInt, 3 << 18}, {1, 1<<32 + 5, 3 << 18},
		} {
			turns(t, of(c.high, c.smooth), seats, of(seats, c.want))
		}
	}
}

// P19.2: a quarter of what Smooth is above High, whole and rounded up, wherever High is.
func TestQuarter(t *testing.T) {
	for _, c := range []struct{ above, falls int }{
		{1, 1}, {2, 1}, {3, 1}, {4, 1}, {5, 2}, {6, 2}, {7, 2}, {8, 2}, {9, 3}, {12, 3}, {13, 4}, {100, 25}, {101, 26}, {102, 26}, {103, 26}, {104, 26}, {105, 27},
	} {
		for _, high := range []int{0, 1, 2, 3, 4, 5, 100, api.MaxWant / 2, api.MaxWant - c.above - 1, api.MaxWant - c.above} {
			turns(t, of(high, high+c.above), 3, of(3, high+c.above-c.falls))
		}
		turns(t, of(-1, c.above), 0, of(0, c.above-c.falls))
		turns(t, of(math.MinInt, c.above), 0, of(0, c.above-c.falls))
		turns(t, of(api.MaxWant-c.above, math.MaxInt), 0, of(0, api.MaxWant-c.falls))
	}
}

// P19.2: seats are of the period that begins: they say nothing of how Smooth falls, and what High was is gone.
func TestSeatsOfATurn(t *testing.T) {
	for _, seats := range numbers {
		turns(t, of(5, 9), seats, of(wantNumber(seats), 8))
		turns(t, of(9, 5), seats, of(wantNumber(seats), 9))
		turns(t, of(7, 7), seats, of(wantNumber(seats), 7))
	}
	turns(t, of(5, 9), 4, of(4, 8))
	turns(t, of(5, 9), 5, of(5, 8))
	turns(t, of(5, 9), 6, of(6, 8))
	turns(t, of(5, 9), 100, of(100, 8))
}

// P19.1, P19.2, P19.3: the edges that the chapter names, and those about them, each beside each.
func TestAtTheEdges(t *testing.T) {
	for _, all := range [][]int{edges[:], numbers[:]} {
		for _, high := range all {
			for _, smooth := range all {
				for _, seats := range all {
					holds(t, of(high, smooth), seats)
					bounded(t, of(high, smooth), seats)
				}
			}
			if t.Failed() {
				t.FailNow()
			}
		}
	}
}

// P19.1, P19.2, P19.3: each small number beside each.
func TestSmallNumbers(t *testing.T) {
	for high := -2; high <= 40; high++ {
		for smooth := -2; smooth <= 60; smooth++ {
			for seats := -2; seats <= 42; seats++ {
				holds(t, of(high, smooth), seats)
				bounded(t, of(high, smooth), seats)
			}
			if t.Failed() {
				t.FailNow()
			}
		}
	}
}

// number is small, about an edge, any that counts as itself, or any int.
func (r *random) number() int {
	switch r.below(5) {
	case 0:
		return r.below(40) - 4
	case 1:
		return pick(r, numbers[:]...)
	case 2:
		return int(r.next())
	}
	return r.below(api.MaxWant + 1)
}

// P19.1, P19.2: many inputs, held against the chapter said in another way.
func TestAgainstTheChapter(t *testing.T) {
	r, below, above := seed, 0, 0
	for range 200000 {
		d, seats := of(r.number(), r.number()), r.number()
		holds(t, d, seats)
		if t.Failed() {
			t.FailNow()
		}
		if wantNumber(d.High) < wantNumber(d.Smooth) {
			below++
		}
		if wantNumber(d.High) < wantNumber(seats) {
			above++
		}
	}
	for _, n := range []int{below, 200000 - below, above, 200000 - above} {
		if n < 40000 {
			t.Errorf("only %d times: too few", n)
		}
	}
}

// bounded: behind a Turn Smooth is not below what High was, and not above what both were.
func bounded(t *testing.T, d api.Demand, seats int) {
	t.Helper()
	high, smooth := wantNumber(d.High), wantNumber(d.Smooth)
	got := demand.Turn(d, seats)
	if got.Smooth < high || got.Smooth > max(high, smooth) {
		t.Errorf("Turn(%v, %d) = %v", d, seats, got)
	}
	// It falls, where it may: else it would never be High.
	if high < smooth && got.Smooth >= smooth {
		t.Errorf("Turn(%v, %d) = %v does not fall", d, seats, got)
	}
}

// P19.3: over many inputs, also one behind the other, with what is noted in between.
func TestBounded(t *testing.T) {
	r := seed
	for range 20000 {
		d := of(r.number(), r.number())
		for range 10 {
			seats := r.number()
			bounded(t, d, seats)
			d = demand.Turn(d, seats)
			for range r.below(3) {
				d = demand.Note(d, r.number())
			}
		}
		if t.Failed() {
			t.FailNow()
		}
	}
}

// settles: of a High that stays the same Smooth is this High behind 50 Turns, and stays so.
func settles(t *testing.T, high, smooth int) {
	t.Helper()
	d, want := of(high, smooth), wantNumber(high)
	for range 50 {
		d = demand.Turn(d, high)
	}
	for range 3 {
		if d != of(want, want) {
			t.Errorf("behind 50 Turns of %d from %d: %v", high, smooth, d)
		}
		d = demand.Turn(d, high)
	}
}

// P19.3: from each edge to each, from all to nothing, and over many inputs.
func TestSettles(t *testing.T) {
	settles(t, 0, api.MaxWant)
	settles(t, api.MaxWant, 0)
	for _, high := range numbers {
		for _, smooth := range numbers {
			settles(t, high, smooth)
		}
	}
	r := seed
	for range 20000 {
		settles(t, r.number(), r.number())
	}
	for above := range 5000 {
		settles(t, 3, 3+above)
		settles(t, 0, api.MaxWant-above)
		settles(t, api.MaxWant-above, api.MaxWant)
	}
}

// P19.3: the way from all to nothing, turn by turn: never up, and a fall at each till it is there.
func TestWayDown(t *testing.T) {
	d, took := of(0, api.MaxWant), 0
	for d.Smooth > 0 {
		next := demand.Turn(d, 0)
		if want := 3 * d.Smooth / 4; next != of(0, want) {
			t.Fatalf("%v turns to %v; want %d", d, next, want)
		}
		d = next
		took++
	}
	if took > 50 {
		t.Errorf("%d Turns", took)
	}
}

// P19.1, P19.2: what is noted in a period is what its end tells, in any order, and only the most of it.
func TestPeriod(t *testing.T) {
	r := seed
	for range 20000 {
		d, most := demand.Turn(of(r.number(), r.number()), 0), 0
		smooth := d.Smooth
		for range r.below(6) {
			seats := r.number()
			d, most = demand.Note(d, seats), max(most, wantNumber(seats))
			if d != of(most, smooth) {
				t.Fatalf("noted %d: %v; want %v", seats, d, of(most, smooth))
			}
		}
		turns(t, d, 7, wantTurn(of(most, smooth), 7))
	}
}

// Rule 3: what is handed in stays as it was; rule 4: and the answer is the same again, whatever was asked in between.
func TestNothingIsChanged(t *testing.T) {
	for _, high := range edges {
		for _, smooth := range edges {
			for _, seats := range edges {
				d := of(high, smooth)
				noted, turned := demand.Note(d, seats), demand.Turn(d, seats)
				demand.Turn(of(123, 456), 789)
				demand.Note(of(123, 456), 789)
				notes(t, d, seats, noted)
				turns(t, d, seats, turned)
				if d != of(high, smooth) {
					t.Errorf("%v was made of %v", d, of(high, smooth))
				}
			}
		}
	}
}
