package fair_test

import (
	"slices"
	"testing"

	"usher/api"
	"usher/fair"
)

// span is how far the work of two lanes went apart since somebody waits in both: the least and the most of the one's
// less the other's, and what it is now.
type span struct{ least, most, now int }

func (s *span) add(work int) {
	s.now += work
	s.least, s.most = min(s.least, s.now), max(s.most, s.now)
}

// story of lanes: who comes is given the next ID.
type story struct {
	f       api.Fair
	stays   bool // the guess is the one that New was told
	widest  int
	came    int
	left    [][]int // by lanes: who came and has not left, in the order of coming
	ended   []int   // by IDs: how often that one left
	spans   [api.MaxQueues][api.MaxQueues]span
	taken   int
	lost    int
	refused int
	apart   int // how far two lanes went apart at the most
}

func begin(t *testing.T, open, guess, length, widest int) *story {
	t.Helper()
	f, e := fair.New(open, guess, length)
	if e != api.OK {
		t.Fatalf("New(%d, %d, %d): %v", open, guess, length, e)
	}
	return &story{f: f, stays: true, widest: widest, left: make([][]int, api.MaxQueues)}
}

// goOn with other lanes: what follows by P22.5 at each time.
func (s *story) goOn(t *testing.T, f api.Fair) {
	t.Helper()
	if f.R < s.f.R {
		t.Fatalf("R fell from %d to %d", s.f.R, f.R)
	}
	s.f = f
	s.are(t)
	for i, l := range f.Lanes {
		if len(l.Wait) > 0 && l.Start > f.R {
			t.Fatalf("lane %d has Start %d, above R %d", i, l.Start, f.R)
		}
	}
	s.reset()
}

// are: just those wait who came and did not leave, each in its lane, in the order of coming.
func (s *story) are(t *testing.T) {
	t.Helper()
	all := 0
	for i, left := range s.left {
		all += len(left)
		if i >= len(s.f.Lanes) {
			if len(left) > 0 {
				t.Fatalf("lane %d is gone, and with it %v", i, left)
			}
			continue
		}
		if !slices.EqualFunc(s.f.Lanes[i].Wait, left, func(x api.Ticket, id int) bool { return x.ID == id }) {
			t.Fatalf("in lane %d wait %v; want %v", i, s.f.Lanes[i].Wait, left)
		}
	}
	if n := fair.Waiting(s.f); n != all {
		t.Fatalf("%d wait; want %d", n, all)
	}
}

// reset the spans of lanes in one of which nobody waits.
func (s *story) reset() {
	for i := range s.spans {
		for j := range i {
			if len(s.left[i]) == 0 || len(s.left[j]) == 0 {
				s.spans[i][j] = span{}
			}
		}
	}
}

// forget all spans: somebody was dropped.
func (s *story) forget() { s.spans = [api.MaxQueues][api.MaxQueues]span{} }

// leaves: that one is no more in that lane; each leaves once.
func (s *story) leaves(t *testing.T, lane, id int) {
	t.Helper()
	s.ended[id]++
	if s.ended[id] != 1 {
		t.Fatalf("%d left %d times", id, s.ended[id])
	}
	k := slices.Index(s.left[lane], id)
	s.left[lane] = slices.Delete(s.left[lane], k, k+1)
}

func (s *story) join(t *testing.T, hand []int, width int) {
	t.Helper()
	next, i, e := fair.Join(s.f, hand, ticket(s.came, width))
	if e != api.OK {
		if want := wantChoose(s.f, hand); e == api.ErrNone && want >= 0 || e == api.ErrFull && len(s.left[want]) < s.f.Length {
			t.Fatalf("Join(%v, %v): %v", s.f, hand, e)
		}
		s.refused++
		return
	}
	s.left[i] = append(s.left[i], s.came)
	s.ended = append(s.ended, 0)
	s.came++
	s.goOn(t, next)
}

// worked: what was taken from one lane counts in all its spans.
func (s *story) worked(lane, work int) {
	for i := range s.spans {
		for j := range i {
			if i == lane {
				s.spans[i][j].add(work)
			}
			if j == lane {
				s.spans[i][j].add(-work)
			}
		}
	}
}

// fairly: over any steps of a span the work differs by at most twice that of the widest one. Behind another guess a
// lane may have more to make up for than that.
func (s *story) fairly(t *testing.T) {
	t.Helper()
	if !s.stays {
		return
	}
	for i := range s.spans {
		for j := range i {
			apart := s.spans[i][j].most - s.spans[i][j].least
			if apart > 2*s.widest*s.f.Guess {
				t.Fatalf("lanes %d and %d went apart by %d: %+v", j, i, apart, s.f)
			}
			s.apart = max(s.apart, apart)
		}
	}
}

func (s *story) take(t *testing.T) {
	t.Helper()
	lane, waits := fair.Next(s.f)
	next, x, ok := fair.Take(s.f)
	if ok != waits || ok != slices.ContainsFunc(s.left, func(left []int) bool { return len(left) > 0 }) {
		t.Fatalf("Take(%v): %t, %t", s.f, waits, ok)
	}
	if !ok {
		s.goOn(t, next)
		return
	}
	if s.left[lane][0] != x.ID {
		t.Fatalf("took %d of %v", x.ID, s.left[lane])
	}
	s.leaves(t, lane, x.ID)
	s.taken++
	s.worked(lane, min(max(x.Width, 1), api.MaxWidth)*s.f.Guess)
	s.goOn(t, next)
	s.fairly(t)
}

// drop whoever has that ID, if that one waits yet.
func (s *story) drop(t *testing.T, id int) {
	t.Helper()
	lane := slices.IndexFunc(s.left, func(left []int) bool { return slices.Contains(left, id) })
	next, x, ok := fair.Drop(s.f, id)
	if ok != (lane >= 0) || ok && x.ID != id {
		t.Fatalf("dropped %v, %t, for %d", x, ok, id)
	}
	if ok {
		s.leaves(t, lane, id)
		s.lost++
		s.forget()
	}
	s.goOn(t, next)
}

func (s *story) shape(t *testing.T, open, guess, length int) {
	t.Helper()
	next, e := fair.Shape(s.f, open, guess, length)
	if e != api.OK || len(next.Lanes) < open {
		t.Fatalf("Shape(%v, %d, %d, %d) = %v, %v", s.f, open, guess, length, next, e)
	}
	s.stays = s.stays && guess == s.f.Guess
	s.goOn(t, next)
}

func (s *story) shut(t *testing.T) {
	t.Helper()
	next := fair.Shut(s.f)
	if next.Open != 0 {
		t.Fatalf("Shut(%v) = %v", s.f, next)
	}
	s.goOn(t, next)
}

// notFarBehind: no lane in which somebody waits is behind R by more than the widest one's work, while the guess stays.
func (s *story) notFarBehind(t *testing.T) {
	t.Helper()
	if !s.stays {
		return
	}
	for i, l := range s.f.Lanes {
		if len(l.Wait) > 0 && s.f.R-l.Start > uint64(s.widest*s.f.Guess) {
			t.Fatalf("lane %d has Start %d, R is %d", i, l.Start, s.f.R)
		}
	}
}

// empty: all who are left are taken, and shut lanes go with them.
func (s *story) empty(t *testing.T) {
	t.Helper()
	s.shut(t)
	for fair.Waiting(s.f) > 0 {
		s.take(t)
	}
	s.take(t)
	if len(s.f.Lanes) > 0 || s.taken+s.lost != s.came || slices.Contains(s.ended, 0) {
		t.Fatalf("%d came, %d were taken, %d dropped: %+v", s.came, s.taken, s.lost, s.f)
	}
}

func (r *random) cards(open int) []int {
	hand := []int{r.below(open + 1)}
	for range r.below(4) {
		hand = append(hand, r.below(open+2)-1)
	}
	return hand
}

// ways are what may happen in a story beside joining and taking.
type ways struct{ drops, shapes, guesses bool }

func (s *story) step(t *testing.T, r *random, w ways) {
	t.Helper()
	switch n := r.below(40); {
	case n < 20:
		s.join(t, r.cards(max(s.f.Open, 1)), 1+r.below(s.widest))
	case n < 34:
		s.take(t)
	case n < 37 && w.drops:
		s.drop(t, s.came-r.below(20))
	case n == 37 && w.shapes:
		guess := s.f.Guess
		if w.guesses {
			guess = pick(r, 1, 10, 1+r.below(api.MaxGuess), api.MaxGuess)
		}
		s.shape(t, 1+r.below(8), guess, 1+r.below(10))
	case n == 38 && w.shapes && r.below(4) == 0:
		s.shut(t)
	}
	s.notFarBehind(t)
}

// tell a story of many steps; behind it all who are left are taken.
func tell(t *testing.T, r *random, w ways) *story {
	t.Helper()
	s := begin(t, 1+r.below(8), pick(r, 1, 10, 1+r.below(api.MaxGuess), api.MaxGuess), pick(r, 1, 5, 1+r.below(api.MaxLength)), pick(r, 1, 3, api.MaxWidth))
	for range 200 {
		s.step(t, r, w)
	}
	s.empty(t)
	return s
}

// P22.5, P22.3, P22.4: over many steps R never falls, those of one lane come in the order of coming, each once, and
// where somebody waits Start is not above R; lanes that stay full get the same work.
func TestManySteps(t *testing.T) {
	for _, w := range []ways{{}, {drops: true}, {shapes: true}, {drops: true, shapes: true}, {drops: true, shapes: true, guesses: true}} {
		r, taken, lost, refused := seed, 0, 0, 0
		for range 60 {
			s := tell(t, &r, w)
			taken, lost, refused = taken+s.taken, lost+s.lost, refused+s.refused
		}
		if taken < 2000 || w.drops != (lost > 100) || refused < 200 {
			t.Errorf("%+v: %d taken, %d dropped, %d refused", w, taken, lost, refused)
		}
	}
}

// fill two lanes up, so that somebody waits in both.
func (s *story) fill(t *testing.T, width func(lane int) int) {
	t.Helper()
	for lane := range 2 {
		for len(s.left[lane]) < s.f.Length {
			s.join(t, []int{lane}, width(lane))
		}
	}
}

// P22.5: two lanes that stay full get the same work, but for twice the widest request's, whatever their widths are;
// and no less will do: they go apart by more than once that work.
func TestTwoFullLanes(t *testing.T) {
	r, most := seed, 0
	for _, guess := range []int{1, 10, api.MaxGuess} {
		for _, widest := range []int{1, 2, 5, api.MaxWidth} {
			for _, width := range []func(lane int) int{
				func(int) int { return widest },
				func(lane int) int { return 1 + lane*(widest-1) },
				func(lane int) int { return widest - lane*(widest-1) },
				func(int) int { return 1 + r.below(widest) },
				func(lane int) int { return pick(&r, 1, widest) },
				func(lane int) int { return pick(&r, 1+lane*(widest-1), 1+lane*(widest-1), 1+r.below(widest)) },
			} {
				s := begin(t, 2, guess, 3, widest)
				for range 500 {
					s.fill(t, width)
					s.take(t)
				}
				if s.taken != 500 || s.apart == 0 || s.apart > 2*widest*guess {
					t.Fatalf("%d taken, apart by %d, guess %d, width %d", s.taken, s.apart, guess, widest)
				}
				if widest == api.MaxWidth && guess == 10 {
					most = max(most, s.apart)
				}
				s.empty(t)
			}
		}
	}
	if most <= api.MaxWidth*10 {
		t.Errorf("apart by %d at the most", most)
	}
}

// P22.5: widths below 1 and above MaxWidth work as they count.
func TestFullLanesOfAnyWidth(t *testing.T) {
	r := seed
	s := begin(t, 2, 7, 3, api.MaxWidth)
	for range 2000 {
		s.fill(t, func(int) int { return pick(&r, r.below(40)-10, pick(&r, extremes[:]...)) })
		s.take(t)
		s.notFarBehind(t)
	}
	s.empty(t)
}

// P22.5: the flow that comes in great numbers gets no more than the one that comes now and then, while both wait; a
// lane that was empty is not given what it did not use.
func TestALaneThatWasEmpty(t *testing.T) {
	s := begin(t, 2, 10, 8, 1)
	for range 100 {
		s.join(t, []int{0}, 1)
		s.take(t)
	}
	for range 8 {
		s.join(t, []int{0}, 1)
		s.join(t, []int{1}, 1)
	}
	if s.f.Lanes[0].Start != 1000 || s.f.Lanes[1].Start != 1000 || s.f.R != 1000 {
		t.Fatalf("%+v", s.f)
	}
	for i := range 16 {
		if lane, ok := fair.Next(s.f); !ok || lane != i%2 {
			t.Errorf("turn %d: lane %d, %t", i, lane, ok)
		}
		s.take(t)
	}
	s.empty(t)
}

// P22.5: lanes that were taken away and come again begin at R, since they come with Start 0.
func TestALaneThatComesAgain(t *testing.T) {
	s := begin(t, 2, 10, 8, 4)
	s.join(t, []int{1}, 4)
	s.take(t)
	s.shape(t, 1, 10, 8)
	if len(s.f.Lanes) != 1 {
		t.Fatalf("%+v", s.f)
	}
	s.shape(t, 2, 10, 8)
	if len(s.f.Lanes) != 2 || s.f.Lanes[1].Start != 0 || s.f.R != 40 {
		t.Fatalf("%+v", s.f)
	}
	s.join(t, []int{1}, 1)
	if s.f.Lanes[1].Start != 40 {
		t.Fatalf("%+v", s.f)
	}
	s.empty(t)
}
