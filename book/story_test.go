package book_test

import (
	"slices"
	"testing"

	"usher/api"
	"usher/book"
)

// story of a book: where each request is, in the order in which they began, and how often each was over.
type story struct {
	b     []api.Entry
	began []api.Entry
	over  map[int]int

	twice, none, held int // how often something was refused
}

// place of a request that began; below 0, if it did not.
func (s *story) place(id int) int {
	return slices.IndexFunc(s.began, func(x api.Entry) bool { return x.ID == id })
}

func (s *story) begin(t *testing.T, x api.Entry) {
	t.Helper()
	b, e := book.Begin(s.b, x)
	if s.place(x.ID) >= 0 {
		s.twice++
		if e != api.ErrTwice || len(b) > 0 {
			t.Fatalf("Begin(%v, %v) = %v, %v", s.b, x, b, e)
		}
		return
	}
	if e != api.OK {
		t.Fatalf("Begin(%v, %v): %v", s.b, x, e)
	}
	s.began = append(s.began, x)
	s.goOn(t, b)
}

func (s *story) move(t *testing.T, id, phase int) {
	t.Helper()
	b, e := book.Move(s.b, id, phase)
	i := s.place(id)
	if want := s.refusal(i, phase); want != api.OK {
		if e != want || len(b) > 0 {
			t.Fatalf("Move(%v, %d, %d) = %v, %v; want %v", s.b, id, phase, b, e, want)
		}
		return
	}
	if e != api.OK {
		t.Fatalf("Move(%v, %d, %d): %v", s.b, id, phase, e)
	}
	s.began[i].Phase = phase
	s.goOn(t, b)
}

// refusal of the move of who stands at i: who is not there can't move, and nobody goes back or stays.
func (s *story) refusal(i, phase int) api.Errno {
	if i < 0 {
		s.none++
		return api.ErrNone
	}
	if phase <= s.began[i].Phase || phase > api.Over {
		s.held++
		return api.ErrState
	}
	return api.OK
}

// goOn with another book: nobody is lost, phases never fall, who is over comes to it once, and stays so.
func (s *story) goOn(t *testing.T, b []api.Entry) {
	t.Helper()
	if !slices.Equal(b, s.began) {
		t.Fatalf("%v; want %v", b, s.began)
	}
	for i, x := range b {
		was := api.Entry{}
		if i < len(s.b) {
			was = s.b[i]
		}
		if x.Phase < was.Phase || was.ID != x.ID && i < len(s.b) {
			t.Fatalf("%v became %v", was, x)
		}
		if x.Phase == api.Over && was.Phase != api.Over {
			s.over[x.ID]++
		}
	}
	s.b = b
	s.holds(t)
}

// holds: no ID stands twice, each is found as it is, and the counts together are the entries.
func (s *story) holds(t *testing.T) {
	t.Helper()
	n := map[int]int{}
	for _, x := range s.b {
		n[x.Phase]++
		finds(t, s.b, x.ID, x)
		if len(wantPlaces(s.b, x.ID)) != 1 || s.over[x.ID] > 1 || (s.over[x.ID] == 1) != (x.Phase == api.Over) {
			t.Fatalf("%v, over %d times, in %v", x, s.over[x.ID], s.b)
		}
	}
	waits, runs, over := book.Count(s.b)
	if waits != n[api.Waits] || runs != n[api.Runs] || over != n[api.Over] || waits+runs+over != len(s.b) {
		t.Fatalf("Count(%v) = %d, %d, %d", s.b, waits, runs, over)
	}
}

// P24.3: over many steps of beginning and moving each request is Over once at most, and stays so.
func TestManySteps(t *testing.T) {
	r, over, twice, none, held := seed, 0, 0, 0, 0
	for range 100 {
		s := story{over: map[int]int{}}
		few := 1 + r.below(60)
		for range 300 {
			id := pick(&r, r.below(few), r.below(few), r.below(few), api.MaxID-r.below(few))
			if r.below(3) == 0 {
				s.begin(t, api.Entry{ID: id, Phase: 1 + r.below(3), Level: pick(&r, levels[:]...)})
			} else {
				s.move(t, id, r.below(6)-1)
			}
		}
		over, twice, none, held = over+len(s.over), twice+s.twice, none+s.none, held+s.held
	}
	if over < 500 || twice < 500 || none < 500 || held < 500 {
		t.Errorf("%d over, %d twice, %d none, %d held: too few", over, twice, none, held)
	}
}

// P24.3: behind Over nothing moves it, nor does it begin again, whichever way it came there.
func TestOverStays(t *testing.T) {
	for _, way := range [][]int{{api.Over}, {api.Waits, api.Over}, {api.Runs, api.Over}, {api.Waits, api.Runs, api.Over}} {
		b, e := book.Begin(of(entry(1, api.Waits), entry(2, api.Runs)), entry(7, way[0]))
		for _, phase := range way[1:] {
			if e == api.OK {
				b, e = book.Move(b, 7, phase)
			}
		}
		if e != api.OK {
			t.Fatalf("%v: %v", way, e)
		}
		for _, phase := range anyPhase() {
			movesNot(t, b, 7, phase, api.ErrState)
		}
		for _, phase := range phases {
			beginsNot(t, b, entry(7, phase), api.ErrTwice)
		}
		moves(t, b, 1, api.Over, entry(1, api.Over), entry(2, api.Runs), entry(7, api.Over))
		begins(t, b, entry(8, api.Waits), entry(1, api.Waits), entry(2, api.Runs), entry(7, api.Over), entry(8, api.Waits))
		counts(t, b, 1, 1, 1)
	}
}
