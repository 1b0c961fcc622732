package lane_test

import (
	"math"
	"math/big"
	"slices"
	"testing"

	"usher/api"
	"usher/fix"
	"usher/lane"
)

// random are numbers, the same ones each time.
type random uint64

func (r *random) next() uint64 {
	x := uint64(*r)
	x ^= x << 13
	x ^= x >> 7
	x ^= x << 17
	*r = random(x)
	return x
}

func (r *random) below(n int) int { return int((r.next() >> 11) % uint64(n)) }

func pick[T any](r *random, of ...T) T { return of[r.below(len(of))] }

const seed = random(88172645463325252)

// counted is a number, and what it counts as.
type counted struct{ number, as int }

var (
	widths = [...]counted{
		{math.MinInt, 1}, {math.MinInt + 1, 1}, {-1 << 32, 1}, {-16, 1}, {-2, 1}, {-1, 1}, {0, 1}, {1, 1}, {2, 2}, {3, 3}, {8, 8}, {14, 14}, {15, 15},
		{16, 16}, {17, 16}, {18, 16}, {32, 16}, {256, 16}, {1 << 32, 16}, {1<<32 + 1, 16}, {math.MaxInt - 1, 16}, {math.MaxInt, 16},
	}
	guesses = [...]counted{
		{math.MinInt, 1}, {math.MinInt + 1, 1}, {-1 << 32, 1}, {-1000, 1}, {-2, 1}, {-1, 1}, {0, 1}, {1, 1}, {2, 2}, {10, 10}, {16, 16}, {17, 17}, {998, 998}, {999, 999},
		{1000, 1000}, {1001, 1000}, {1002, 1000}, {1 << 16, 1000}, {1 << 32, 1000}, {1<<32 + 1, 1000}, {math.MaxInt - 1, 1000}, {math.MaxInt, 1000},
	}
	// starts are virtual times: small ones, and those about the cap, or above it.
	starts = [...]uint64{
		0, 1, 2, 5, 9, 1000, 16000, 1<<32 - 1, 1 << 32, 1 << 61, api.Cap - 16001, api.Cap - 16000, api.Cap - 15999, api.Cap - 2, api.Cap - 1, api.Cap,
		api.Cap + 1, 1<<63 - 1, 1 << 63, math.MaxUint64 - 16000, math.MaxUint64 - 1, math.MaxUint64,
	}
	// moments are those that may be an Until, or now, at all.
	moments = [...]int{math.MinInt, math.MinInt + 1, -1 << 32, -1, 0, 1, 2, 7, 8, 9, api.MaxTick - 1, api.MaxTick, api.MaxTick + 1, math.MaxInt - 1, math.MaxInt}
)

func ticket(id, width, until int) api.Ticket {
	return api.Ticket{ID: id, Width: width, Seats: id + 100, Since: id + 200, Until: until}
}

func of(start uint64, wait ...api.Ticket) api.Lane { return api.Lane{Start: start, Wait: wait} }

func same(a, b api.Lane) bool { return a.Start == b.Start && slices.Equal(a.Wait, b.Wait) }

func joins(t *testing.T, l api.Lane, r uint64, x api.Ticket, want api.Lane) {
	t.Helper()
	if got := lane.Join(l, r, x); !same(got, want) {
		t.Errorf("Join(%v, %d, %v) = %v; want %v", l, r, x, got, want)
	}
}

func finishes(t *testing.T, l api.Lane, guess int, want uint64) {
	t.Helper()
	if got, ok := lane.Finish(l, guess); !ok || got != want {
		t.Errorf("Finish(%v, %d) = %d, %t; want %d", l, guess, got, ok, want)
	}
}

func takes(t *testing.T, l api.Lane, guess int, want api.Lane, who api.Ticket) {
	t.Helper()
	if got, x, ok := lane.Take(l, guess); !ok || x != who || !same(got, want) {
		t.Errorf("Take(%v, %d) = %v, %v, %t; want %v, %v", l, guess, got, x, ok, want, who)
	}
}

func drops(t *testing.T, l api.Lane, id int, want api.Lane, who api.Ticket) {
	t.Helper()
	if got, x, ok := lane.Drop(l, id); !ok || x != who || !same(got, want) {
		t.Errorf("Drop(%v, %d) = %v, %v, %t; want %v, %v", l, id, got, x, ok, want, who)
	}
}

// takesNobody: false, the lane as it is, and nobody.
func takesNobody(t *testing.T, l api.Lane, guess int) {
	t.Helper()
	if finish, ok := lane.Finish(l, guess); ok || finish != 0 {
		t.Errorf("Finish(%v, %d) = %d, %t", l, guess, finish, ok)
	}
	if got, x, ok := lane.Take(l, guess); ok || x != (api.Ticket{}) || !same(got, l) {
		t.Errorf("Take(%v, %d) = %v, %v, %t", l, guess, got, x, ok)
	}
}

// dropsNobody: false, the lane as it is, and nobody.
func dropsNobody(t *testing.T, l api.Lane, id int) {
	t.Helper()
	if got, x, ok := lane.Drop(l, id); ok || x != (api.Ticket{}) || !same(got, l) {
		t.Errorf("Drop(%v, %d) = %v, %v, %t", l, id, got, x, ok)
	}
}

func late(t *testing.T, l api.Lane, now int, want ...api.Ticket) {
	t.Helper()
	if got := lane.Late(l, now); !slices.Equal(got, want) {
		t.Errorf("Late(%v, %d) = %v; want %v", l, now, got, want)
	}
}

func seats(t *testing.T, l api.Lane, want int) {
	t.Helper()
	if got := lane.Seats(l); got != want {
		t.Errorf("Seats(%v) = %d; want %d", l, got, want)
	}
}

// What follows is the chapter once more, by other means: numbers without an end, and lists that are gone through one
// by one.

func wantBetween(low, n, high int) int {
	if n < low {
		return low
	}
	if n > high {
		return high
	}
	return n
}

func wantWork(x api.Ticket, guess int) *big.Int {
	width, ticks := wantBetween(1, x.Width, 16), wantBetween(1, guess, 1000)
	return new(big.Int).Mul(big.NewInt(int64(width)), big.NewInt(int64(ticks)))
}

// wantSum is layer 1's: a number above 2^62 counts as that, and so does the sum.
func wantSum(start uint64, work *big.Int) uint64 {
	most := new(big.Int).Lsh(big.NewInt(1), 62)
	sum := new(big.Int).SetUint64(start)
	if sum.Cmp(most) > 0 {
		sum = most
	}
	sum = new(big.Int).Add(sum, work)
	if sum.Cmp(most) > 0 {
		sum = most
	}
	return sum.Uint64()
}

func wantJoin(l api.Lane, r uint64, x api.Ticket) api.Lane {
	want := api.Lane{Start: l.Start}
	for _, y := range l.Wait {
		want.Wait = append(want.Wait, y)
	}
	if len(want.Wait) == 0 && r > want.Start {
		want.Start = r
	}
	want.Wait = append(want.Wait, x)
	return want
}

func wantTake(l api.Lane, guess int) api.Lane {
	want := api.Lane{Start: wantSum(l.Start, wantWork(l.Wait[0], guess))}
	for i, x := range l.Wait {
		if i > 0 {
			want.Wait = append(want.Wait, x)
		}
	}
	return want
}

// wantDrop is the lane that is left, and who was dropped: one, or nobody.
func wantDrop(l api.Lane, id int) (want api.Lane, who []api.Ticket) {
	want.Start = l.Start
	for _, x := range l.Wait {
		if x.ID == id && len(who) == 0 {
			who = append(who, x)
		} else {
			want.Wait = append(want.Wait, x)
		}
	}
	return want, who
}

func wantLate(l api.Lane, now int) (want []api.Ticket) {
	for _, x := range l.Wait {
		if x.Until < now || x.Until == now {
			want = append(want, x)
		}
	}
	return want
}

func wantSeats(l api.Lane) (want int) {
	for _, x := range l.Wait {
		want += wantBetween(1, x.Width, 16)
	}
	return want
}

// P21.1, P21.2: the chapter's example.
func TestExample(t *testing.T) {
	x := api.Ticket{ID: 1, Width: 2}
	l := lane.Join(of(5), 9, x)
	if !same(l, of(9, x)) {
		t.Errorf("Join: %v", l)
	}
	finishes(t, l, 10, 29)
	takes(t, l, 10, of(29), x)
}

// P21.1: r below, at and above Start: where nobody waited the greater one counts, else Start alone.
func TestJoin(t *testing.T) {
	x, y, z := ticket(1, 2, 3), ticket(2, 1, 9), ticket(3, 16, 4)
	for _, start := range starts {
		for _, r := range starts {
			joins(t, of(start), r, x, of(max(start, r), x))
			joins(t, of(start, x), r, y, of(start, x, y))
			joins(t, of(start, x, y), r, z, of(start, x, y, z))
		}
		for _, r := range []uint64{start - 1, start, start + 1} {
			joins(t, of(start), r, x, of(max(start, r), x))
			joins(t, of(start, x), r, y, of(start, x, y))
		}
	}
	joins(t, of(5), 4, x, of(5, x))
	joins(t, of(5), 5, x, of(5, x))
	joins(t, of(5), 6, x, of(6, x))
	joins(t, of(5, x), 6, y, of(5, x, y))
	joins(t, api.Lane{Start: 5, Wait: []api.Ticket{}}, 6, x, of(6, x))
}

// P21.1: who comes stays as it is, whatever is in the ticket, and comes last, whoever waits.
func TestJoinTakesAnyTicket(t *testing.T) {
	l := of(7)
	var all []api.Ticket
	for _, w := range widths {
		for _, until := range moments {
			x := api.Ticket{ID: -w.number, Width: w.number, Seats: until, Since: w.number, Until: until}
			l, all = lane.Join(l, 0, x), append(all, x)
			if !same(l, of(7, all...)) {
				t.Fatalf("%v; want %v", l, all)
			}
		}
	}
	// Nobody is one too many for a lane, and the same one may come twice.
	if len(all) <= api.MaxLength {
		t.Errorf("%d: too few", len(all))
	}
	joins(t, of(7, all...), 9, all[0], of(7, append(slices.Clone(all), all[0])...))
	joins(t, of(0), 0, api.Ticket{}, of(0, api.Ticket{}))
}

// P21.2: widths and guesses below 1, from 1 to the most, and above it; the ticket keeps its own width.
func TestWork(t *testing.T) {
	behind := ticket(2, 5, 5)
	for _, w := range widths {
		for _, g := range guesses {
			x := ticket(1, w.number, 3)
			finish := uint64(100 + w.as*g.as)
			finishes(t, of(100, x), g.number, finish)
			takes(t, of(100, x), g.number, of(finish), x)
			takes(t, of(100, x, behind), g.number, of(finish, behind), x)
		}
	}
}

// P21.2: Start and work, together: the sum of layer 1, about the cap, at it and above it.
func TestFinishAboutTheCap(t *testing.T) {
	for _, w := range widths {
		for _, g := range guesses {
			work := uint64(w.as * g.as)
			x := ticket(1, w.number, 3)
			for _, start := range append(starts[:], api.Cap-work-1, api.Cap-work, api.Cap-work+1) {
				want := wantSum(start, wantWork(x, g.number))
				if want != fix.Add(start, work) {
					t.Fatalf("%d and %d: %d", start, work, want)
				}
				finishes(t, of(start, x), g.number, want)
				takes(t, of(start, x), g.number, of(want), x)
			}
		}
	}
	x := ticket(1, 3, 3)
	finishes(t, of(api.Cap-31, x), 10, api.Cap-1)
	finishes(t, of(api.Cap-30, x), 10, api.Cap)
	finishes(t, of(api.Cap-29, x), 10, api.Cap)
	finishes(t, of(api.Cap, x), 10, api.Cap)
	finishes(t, of(math.MaxUint64, x), 10, api.Cap)
}

// P21.2: the first one counts and goes, whatever those behind are.
func TestTakeTheFirst(t *testing.T) {
	x, y, z := ticket(5, 1, 9), ticket(4, 16, 1), ticket(5, 2, 2)
	for _, g := range guesses {
		takes(t, of(9, x, y, z), g.number, of(9+uint64(g.as), y, z), x)
		takes(t, of(9, y, z, x), g.number, of(9+uint64(16*g.as), z, x), y)
		takes(t, of(9, z, x, y), g.number, of(9+uint64(2*g.as), x, y), z)
		takes(t, of(9, z, z), g.number, of(9+uint64(2*g.as), z), z)
	}
	// What Seats a ticket has, and when it came, is not asked.
	x.Seats, x.Since, x.Until, x.ID = math.MaxInt, math.MinInt, math.MinInt, math.MinInt
	takes(t, of(9, x, y), 7, of(16, y), x)
}

// P21.2: nobody waits.
func TestTakeNobody(t *testing.T) {
	for _, start := range starts {
		for _, g := range guesses {
			takesNobody(t, of(start), g.number)
			takesNobody(t, api.Lane{Start: start, Wait: []api.Ticket{}}, g.number)
			takesNobody(t, api.Lane{Start: start, Wait: []api.Ticket{ticket(1, 2, 3)}[:0]}, g.number)
		}
	}
}

// P21.3: an ID that the first one has, that one among them has, that the last one has, and that nobody has.
func TestDrop(t *testing.T) {
	x, y, z := ticket(3, 1, 9), ticket(-1, 16, 1), ticket(math.MaxInt, 2, 2)
	for _, start := range starts {
		l := of(start, x, y, z)
		drops(t, l, 3, of(start, y, z), x)
		drops(t, l, -1, of(start, x, z), y)
		drops(t, l, math.MaxInt, of(start, x, y), z)
		drops(t, of(start, x), 3, of(start), x)
		for _, id := range []int{math.MinInt, -3, -2, 0, 1, 2, 4, 16, 103, 203, 1<<32 + 3, math.MaxInt - 1} {
			dropsNobody(t, l, id)
			dropsNobody(t, of(start, x), id)
		}
		dropsNobody(t, of(start, x), -1)
		dropsNobody(t, of(start), 3)
		dropsNobody(t, of(start), 0)
		dropsNobody(t, api.Lane{Start: start, Wait: []api.Ticket{x}[:0]}, 3)
	}
	drops(t, of(7, api.Ticket{}), 0, of(7), api.Ticket{})
}

// P21.3: of those that have one ID the first goes, one at a time.
func TestDropOfTwo(t *testing.T) {
	x, y, first, second := ticket(1, 1, 1), ticket(2, 2, 2), ticket(9, 3, 8), ticket(9, 4, 7)
	drops(t, of(6, first, second), 9, of(6, second), first)
	drops(t, of(6, second, first), 9, of(6, first), second)
	drops(t, of(6, first, x, second), 9, of(6, x, second), first)
	drops(t, of(6, x, first, second), 9, of(6, x, second), first)
	drops(t, of(6, x, first, y, second), 9, of(6, x, y, second), first)
	drops(t, of(6, first, first, first), 9, of(6, first, first), first)
	l := of(6, x, first, y, second)
	for _, who := range []api.Ticket{first, second} {
		next, got, ok := lane.Drop(l, 9)
		if !ok || got != who {
			t.Errorf("Drop(%v, 9) = %v, %t", l, got, ok)
		}
		l = next
	}
	dropsNobody(t, l, 9)
}

// P21.3: Until below now, at it and above it; in the order of coming, not in that of Until or ID.
func TestLate(t *testing.T) {
	x, y, z := ticket(3, 0, 7), ticket(2, 16, 4), ticket(1, 5, 7)
	l := of(99, x, y, z)
	for _, c := range []struct {
		now  int
		want []api.Ticket
	}{
		{math.MinInt, nil}, {-1, nil}, {0, nil}, {3, nil}, {4, []api.Ticket{y}}, {5, []api.Ticket{y}}, {6, []api.Ticket{y}},
		{7, l.Wait}, {8, l.Wait}, {99, l.Wait}, {math.MaxInt, l.Wait},
	} {
		late(t, l, c.now, c.want...)
	}
	late(t, of(99, x, x, z, y, x), 7, x, x, z, y, x)
	late(t, of(99, x, x, z, y, x), 6, y)
	for _, now := range moments {
		late(t, of(99), now)
		late(t, api.Lane{Wait: []api.Ticket{x}[:0]}, now)
		for _, until := range moments {
			w := ticket(5, 5, until)
			if until <= now {
				late(t, of(99, w), now, w)
			} else {
				late(t, of(99, w), now)
			}
		}
	}
	// Since is not asked, nor whether it is above Until.
	w := api.Ticket{ID: 1, Since: 8, Until: 5}
	late(t, of(0, w), 4)
	late(t, of(0, w), 5, w)
}

// P21.3: the seats of nobody, of one and of many, each width as it counts.
func TestSeats(t *testing.T) {
	seats(t, of(99), 0)
	seats(t, of(99, ticket(1, 2, 3)), 2)
	seats(t, of(99, ticket(1, 2, 3), ticket(1, 16, 3), ticket(2, 5, 3)), 23)
	seats(t, api.Lane{Wait: []api.Ticket{ticket(1, 2, 3)}[:0]}, 0)
	l, all := of(99), 0
	for _, w := range widths {
		seats(t, of(99, ticket(1, w.number, 3)), w.as)
		for _, v := range widths {
			seats(t, of(99, ticket(1, w.number, 3), ticket(2, v.number, 3)), w.as+v.as)
		}
		l.Wait, all = append(l.Wait, ticket(1, w.number, 3)), all+w.as
		seats(t, l, all)
	}
	// Many: not the seats that they have, and no most of them together.
	seats(t, of(0, slices.Repeat([]api.Ticket{ticket(1, 99, 3)}, 5000)...), 80000)
	seats(t, of(0, slices.Repeat([]api.Ticket{ticket(1, -99, 3)}, 5000)...), 5000)
}

// number is a small one, or one of any size.
func (r *random) number(small int) int {
	return pick(r, r.below(small), r.below(small), r.below(small), pick(r, moments[:]...), int(r.next()))
}

// ticket of any numbers, of few IDs, so that some are there twice.
func (r *random) ticket() api.Ticket {
	return api.Ticket{ID: r.number(5), Width: r.number(20) - 1, Seats: r.number(20), Since: r.number(10), Until: r.number(10)}
}

func (r *random) start() uint64 {
	return pick(r, uint64(r.below(100)), pick(r, starts[:]...), api.Cap-uint64(r.below(20000)), r.next())
}

// lane of any numbers, with nobody, one, some or many who wait.
func (r *random) lane() api.Lane {
	l := of(r.start())
	for range pick(r, 0, 1, 2, r.below(8), r.below(100)) {
		l.Wait = append(l.Wait, r.ticket())
	}
	return l
}

// P21.1, P21.2, P21.3: many lanes, held against the chapter said in another way.
func TestAgainstTheChapter(t *testing.T) {
	r, nobody, dropped := seed, 0, 0
	for range 20000 {
		l, start, x, id, now, guess := r.lane(), r.start(), r.ticket(), r.number(5), r.number(10), r.number(1100)
		joins(t, l, start, x, wantJoin(l, start, x))
		late(t, l, now, wantLate(l, now)...)
		seats(t, l, wantSeats(l))
		if len(l.Wait) == 0 {
			nobody++
			takesNobody(t, l, guess)
		} else {
			want := wantTake(l, guess)
			finishes(t, l, guess, want.Start)
			takes(t, l, guess, want, l.Wait[0])
		}
		if want, who := wantDrop(l, id); len(who) == 0 {
			dropsNobody(t, l, id)
		} else {
			dropped++
			drops(t, l, id, want, who[0])
		}
		if t.Failed() {
			t.FailNow()
		}
	}
	if nobody < 1000 || dropped < 1000 {
		t.Errorf("nobody %d times, dropped %d times: too few", nobody, dropped)
	}
}

// story of a lane: who comes is given the next ID, and the moment goes on step by step.
type story struct {
	l             api.Lane
	came, now     int
	guess         int
	left          []int // who came and has not left, in the order of coming
	taken, lost   int
	worked, leapt uint64 // by how much Start rose: by Take, and by Join
}

// rose: Start rose from a moment ahead by this much, or as much of it as there is below the cap; it never falls.
func (s *story) rose(t *testing.T, before, by uint64) {
	t.Helper()
	if s.l.Start < before || s.l.Start != min(before+by, api.Cap) {
		t.Fatalf("Start went from %d to %d, by %d", before, s.l.Start, by)
	}
}

func (s *story) join(t *testing.T, r *random) {
	t.Helper()
	before, leap := s.l.Start, uint64(0)
	virtual := before + uint64(r.below(50)) - min(before, 25)
	if len(s.left) == 0 && virtual > before {
		leap = virtual - before
	}
	// Join takes the greater one as it is, so that nothing above the cap is handed in here.
	s.l = lane.Join(s.l, min(virtual, api.Cap), ticket(s.came, r.number(20)-1, s.now+r.below(40)))
	s.rose(t, before, leap)
	s.left, s.came, s.leapt = append(s.left, s.came), s.came+1, s.leapt+s.l.Start-before
}

func (s *story) take(t *testing.T) {
	t.Helper()
	before := s.l.Start
	finish, waits := lane.Finish(s.l, s.guess)
	next, x, ok := lane.Take(s.l, s.guess)
	s.l = next
	if ok != waits || ok != (len(s.left) > 0) {
		t.Fatalf("%d wait; %t, %t", len(s.left), waits, ok)
	}
	if !ok {
		s.rose(t, before, 0)
		return
	}
	if x.ID != s.left[0] || next.Start != finish {
		t.Fatalf("took %d with finish %d to %d, of %v", x.ID, finish, next.Start, s.left)
	}
	s.rose(t, before, wantWork(x, s.guess).Uint64())
	s.left, s.taken, s.worked = s.left[1:], s.taken+1, s.worked+next.Start-before
}

// drop whoever has that ID, if that one is there yet.
func (s *story) drop(t *testing.T, id int) {
	t.Helper()
	before, i := s.l.Start, slices.Index(s.left, id)
	next, x, ok := lane.Drop(s.l, id)
	s.l = next
	s.rose(t, before, 0)
	if ok != (i >= 0) || ok && x.ID != id {
		t.Fatalf("dropped %d, %t, for %d of %v", x.ID, ok, id, s.left)
	}
	if ok {
		s.left, s.lost = slices.Delete(s.left, i, i+1), s.lost+1
	}
}

// turn to a later moment: who is late is dropped.
func (s *story) turn(t *testing.T, ticks int) {
	t.Helper()
	s.now += ticks
	for _, x := range lane.Late(s.l, s.now) {
		s.drop(t, x.ID)
	}
	for _, x := range s.l.Wait {
		if x.Until <= s.now {
			t.Fatalf("%v is late at %d", x, s.now)
		}
	}
}

// are: just those wait who came and did not leave, in the order of coming.
func (s *story) are(t *testing.T) {
	t.Helper()
	if len(s.l.Wait) != len(s.left) {
		t.Fatalf("%v; want %v", s.l, s.left)
	}
	for i, x := range s.l.Wait {
		if x.ID != s.left[i] {
			t.Fatalf("%v; want %v", s.l, s.left)
		}
	}
}

// tell a story of many steps; behind it all who are left are taken.
func tell(t *testing.T, r *random, start uint64, steps int) story {
	t.Helper()
	s := story{l: of(start), guess: pick(r, 1, 10, api.MaxGuess, r.below(1100), r.number(3))}
	for range steps {
		switch r.below(10) {
		case 0, 1, 2, 3:
			s.join(t, r)
		case 4, 5, 6:
			s.take(t)
		case 7:
			s.drop(t, s.came-r.below(6))
		case 8, 9:
			s.turn(t, r.below(4))
		}
		s.are(t)
	}
	for range len(s.left) + 1 {
		s.take(t)
		s.are(t)
	}
	return s
}

// P21.4: over many steps of joining, taking, dropping and being late.
func TestManySteps(t *testing.T) {
	r, taken, lost, leapt, capped := seed, 0, 0, 0, 0
	for range 400 {
		start := pick(&r, 0, uint64(r.below(1000)), 1<<61, api.Cap-uint64(r.below(100000)), api.Cap)
		s := tell(t, &r, start, 200)
		if s.taken+s.lost != s.came || s.l.Start != start+s.worked+s.leapt {
			t.Fatalf("from %d: %+v", start, s)
		}
		taken, lost = taken+s.taken, lost+s.lost
		if s.leapt > 0 {
			leapt++
		}
		if s.l.Start == api.Cap {
			capped++
		}
	}
	if taken < 5000 || lost < 5000 || leapt < 100 || capped < 50 || capped > 300 {
		t.Errorf("%d taken, %d lost, %d leapt, %d at the cap", taken, lost, leapt, capped)
	}
}

// P21.4: who came first is taken first, and Start rises by just the work, ticket by ticket.
func TestTakenInTheOrderOfComing(t *testing.T) {
	l, start := of(0), uint64(7)
	for i := range 200 {
		l = lane.Join(l, 7, ticket(-i, i%20, 1000-i))
	}
	for _, id := range []int{0, -1, -50, -198, -199} {
		l, _, _ = lane.Drop(l, id)
	}
	for i := range 200 {
		if i == 0 || i == 1 || i == 50 || i == 198 || i == 199 {
			continue
		}
		guess := i - 5
		next, x, ok := lane.Take(l, guess)
		start += wantWork(x, guess).Uint64()
		if !ok || x != ticket(-i, i%20, 1000-i) || next.Start != start {
			t.Fatalf("%d: took %v, %t; Start %d, want %d", i, x, ok, next.Start, start)
		}
		l = next
	}
	takesNobody(t, l, 10)
}

// P21.4: at the cap Start stays there, and they are taken all the same.
func TestTakenAtTheCap(t *testing.T) {
	l := of(api.Cap - 50)
	for i := range 5 {
		l = lane.Join(l, 0, ticket(i, 2, 9))
	}
	for i, want := range []uint64{api.Cap - 30, api.Cap - 10, api.Cap, api.Cap, api.Cap} {
		finishes(t, l, 10, want)
		takes(t, l, 10, of(want, l.Wait[1:]...), ticket(i, 2, 9))
		l, _, _ = lane.Take(l, 10)
	}
	joins(t, l, api.Cap-1, ticket(9, 1, 9), of(api.Cap, ticket(9, 1, 9)))
	joins(t, l, api.Cap, ticket(9, 1, 9), of(api.Cap, ticket(9, 1, 9)))
}

// answers of all calls for one lane.
type answers struct {
	joined, taken, dropped, undropped api.Lane
	late                              []api.Ticket
	finish                            uint64
	seats                             int
	first, who, nobody                api.Ticket
	waits, took, was, none            bool
}

func ask(l api.Lane) answers {
	var a answers
	a.joined = lane.Join(l, 77, ticket(8, 3, 3))
	a.finish, a.waits = lane.Finish(l, 10)
	a.taken, a.first, a.took = lane.Take(l, 10)
	a.dropped, a.who, a.was = lane.Drop(l, 2)
	a.undropped, a.nobody, a.none = lane.Drop(l, math.MinInt)
	a.late, a.seats = lane.Late(l, 7), lane.Seats(l)
	return a
}

func (a *answers) lists() [5]*[]api.Ticket {
	return [...]*[]api.Ticket{&a.joined.Wait, &a.taken.Wait, &a.dropped.Wait, &a.undropped.Wait, &a.late}
}

// copied: the same answers in memory of their own.
func (a answers) copied() answers {
	for _, list := range a.lists() {
		*list = slices.Clone(*list)
	}
	return a
}

func (a answers) same(b answers) bool {
	for i, list := range a.lists() {
		if !slices.Equal(*list, *b.lists()[i]) {
			return false
		}
	}
	return a.joined.Start == b.joined.Start && a.taken.Start == b.taken.Start && a.dropped.Start == b.dropped.Start && a.undropped.Start == b.undropped.Start &&
		a.finish == b.finish && a.seats == b.seats && a.first == b.first && a.who == b.who && a.nobody == b.nobody &&
		a.waits == b.waits && a.took == b.took && a.was == b.was && a.none == b.none
}

// spoil a list, and its spare room.
func spoil(list []api.Ticket) {
	whole := list[:cap(list)]
	for i := range whole {
		whole[i] = api.Ticket{ID: -77, Width: -77, Seats: -77, Since: -77, Until: -77}
	}
}

// handed is a lane of n who wait, in a list that has spare room: the lane, and the whole list.
func handed(n, spare int) (api.Lane, []api.Ticket) {
	var whole []api.Ticket
	for i := range n + spare {
		whole = append(whole, ticket(i+1, i, 3*i+2))
	}
	whole = slices.Clip(whole)
	return of(50, whole[:n]...), whole
}

// Rule 3: what is handed in stays as it was, its spare room, too; rule 4: and the answers are the same again.
func TestNothingIsChanged(t *testing.T) {
	for n := range 6 {
		for spare := range 4 {
			l, whole := handed(n, spare)
			before := slices.Clone(whole)
			first := ask(l).copied()
			for range 3 {
				lane.Take(of(4, ticket(5, 5, 5)), 5)
				if again := ask(l); !first.same(again) {
					t.Fatalf("%+v; then %+v", first, again)
				}
			}
			if !same(l, of(50, before[:n]...)) || !slices.Equal(whole, before) {
				t.Fatalf("%v was made of %v", whole, before)
			}
		}
	}
}

// Rule 3: an answer is new memory: written over, with its spare room, it changes neither the lane that was handed in
// nor another answer, whether it came with a true or a false.
func TestAnswersAreNew(t *testing.T) {
	for n := range 6 {
		for spare := range 4 {
			l, whole := handed(n, spare)
			before, want := slices.Clone(whole), ask(l).copied()
			for i := range want.lists() {
				a := ask(l)
				spoil(*a.lists()[i])
				*a.lists()[i] = slices.Clone(*want.lists()[i])
				if !a.same(want) || !slices.Equal(whole, before) {
					t.Fatalf("%d of %d: %+v, %v; want %+v, %v", i, n, a, whole, want, before)
				}
				// What is put behind an answer lands in no other list.
				a = ask(l)
				_ = append(*a.lists()[i], ticket(1, 1, 1), ticket(2, 2, 2))
				if !a.same(want) || !slices.Equal(whole, before) {
					t.Fatalf("%d of %d: %+v, %v; want %+v, %v", i, n, a, whole, want, before)
				}
			}
		}
	}
}

// Rule 3: what is handed in is not kept: changed, it changes no answer.
func TestNothingIsKept(t *testing.T) {
	for n := range 6 {
		for spare := range 4 {
			l, whole := handed(n, spare)
			a := ask(l)
			want := a.copied()
			spoil(whole)
			if !a.same(want) {
				t.Fatalf("%+v was made of %+v", a, want)
			}
		}
	}
}

// Rule 3: lanes that come of one lane go apart, however far.
func TestLanesGoApart(t *testing.T) {
	l, _ := handed(3, 5)
	before := slices.Clone(l.Wait)
	one, other := l, l
	for i := range 20 {
		one, other = lane.Join(one, 0, ticket(100+i, 1, 1)), lane.Join(other, 0, ticket(200+i, 1, 1))
	}
	for i := range 20 {
		if one.Wait[3+i].ID != 100+i || other.Wait[3+i].ID != 200+i {
			t.Fatalf("%v, %v", one, other)
		}
	}
	taken, _, _ := lane.Take(one, 1)
	dropped, _, _ := lane.Drop(one, 105)
	lane.Join(taken, 0, ticket(300, 1, 1))
	lane.Join(dropped, 0, ticket(300, 1, 1))
	if len(one.Wait) != 23 || one.Wait[8].ID != 105 || !slices.Equal(l.Wait, before) || !slices.Equal(one.Wait[:3], before) {
		t.Errorf("%v, %v", l, one)
	}
}
