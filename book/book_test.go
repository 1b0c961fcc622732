package book_test

import (
	"math"
	"slices"
	"strings"
	"testing"

	"usher/api"
	"usher/book"
)

var (
	// known are IDs that a request may have, unknown those that none may have.
	known   = [...]int{0, 1, 2, 7, 8, 1 << 20, api.MaxID - 1, api.MaxID}
	unknown = [...]int{math.MinInt, math.MinInt + 1, -1 << 32, -api.MaxID, -7, -2, -1, api.MaxID + 1, api.MaxID + 2, 1 << 32, 1<<32 + 7, math.MaxInt - 1, math.MaxInt}
	phases  = [...]int{api.Waits, api.Runs, api.Over}
	// below and above the three are phases that are none of them.
	below = [...]int{math.MinInt, math.MinInt + 1, -1 << 32, -3, -2, -1, 0}
	above = [...]int{4, 5, 6, 257, 1 << 32, 1<<32 + 1, 1<<32 + 3, math.MaxInt - 1, math.MaxInt}
	// levels are names of any bytes.
	levels = [...]string{"", "a", "b", "catch-all", "A b", "\x00", "\xff\xfe", "é\n\t", "a\x00", strings.Repeat("long", 20)}
)

func others() []int { return slices.Concat(below[:], above[:]) }

func anyPhase() []int { return slices.Concat(below[:], phases[:], above[:]) }

func entry(id, phase int) api.Entry { return api.Entry{ID: id, Phase: phase, Level: "a"} }

func of(b ...api.Entry) []api.Entry { return b }

// nobody are the books in which no one is: the last one has an entry in its spare room.
func nobody() [][]api.Entry { return [][]api.Entry{nil, {}, of(entry(7, api.Waits))[:0]} }

func finds(t *testing.T, b []api.Entry, id int, want api.Entry) {
	t.Helper()
	if got, ok := book.Find(b, id); !ok || got != want {
		t.Errorf("Find(%v, %d) = %v, %t; want %v", b, id, got, ok, want)
	}
}

func findsNone(t *testing.T, b []api.Entry, id int) {
	t.Helper()
	if got, ok := book.Find(b, id); ok || got != (api.Entry{}) {
		t.Errorf("Find(%v, %d) = %v, %t; want none", b, id, got, ok)
	}
}

func begins(t *testing.T, b []api.Entry, x api.Entry, want ...api.Entry) {
	t.Helper()
	if got, e := book.Begin(b, x); e != api.OK || !slices.Equal(got, want) {
		t.Errorf("Begin(%v, %v) = %v, %v; want %v", b, x, got, e, want)
	}
}

func beginsNot(t *testing.T, b []api.Entry, x api.Entry, want api.Errno) {
	t.Helper()
	if got, e := book.Begin(b, x); e != want || len(got) > 0 {
		t.Errorf("Begin(%v, %v) = %v, %v; want %v", b, x, got, e, want)
	}
}

func moves(t *testing.T, b []api.Entry, id, phase int, want ...api.Entry) {
	t.Helper()
	if got, e := book.Move(b, id, phase); e != api.OK || !slices.Equal(got, want) {
		t.Errorf("Move(%v, %d, %d) = %v, %v; want %v", b, id, phase, got, e, want)
	}
}

func movesNot(t *testing.T, b []api.Entry, id, phase int, want api.Errno) {
	t.Helper()
	if got, e := book.Move(b, id, phase); e != want || len(got) > 0 {
		t.Errorf("Move(%v, %d, %d) = %v, %v; want %v", b, id, phase, got, e, want)
	}
}

func counts(t *testing.T, b []api.Entry, waits, runs, over int) {
	t.Helper()
	if w, r, o := book.Count(b); w != waits || r != runs || o != over {
		t.Errorf("Count(%v) = %d, %d, %d; want %d, %d, %d", b, w, r, o, waits, runs, over)
	}
}

// P24.1, P24.2, P24.3: the chapter's example.
func TestExample(t *testing.T) {
	waits, runs, over := entry(7, api.Waits), entry(7, api.Runs), entry(7, api.Over)
	begins(t, nil, waits, waits)
	moves(t, of(waits), 7, api.Runs, runs)
	moves(t, of(runs), 7, api.Over, over)
	movesNot(t, of(over), 7, api.Over, api.ErrState)
	for _, phase := range phases {
		beginsNot(t, of(over), entry(7, phase), api.ErrTwice)
	}
	finds(t, of(over), 7, over)
	counts(t, of(over), 0, 0, 1)
}

// P24.1: the first entry, one among them, the last one, and none.
func TestFind(t *testing.T) {
	x, y, z := entry(3, api.Over), entry(0, api.Waits), entry(api.MaxID, api.Runs)
	b := of(x, y, z)
	for _, w := range b {
		finds(t, b, w.ID, w)
		finds(t, of(w), w.ID, w)
	}
	for _, id := range []int{math.MinInt, -3, -1, 1, 2, 4, 7, api.MaxID - 1, api.MaxID + 1, 1 << 32, 1<<32 + 3, math.MaxInt} {
		findsNone(t, b, id)
	}
	for _, none := range nobody() {
		for _, id := range slices.Concat(known[:], unknown[:]) {
			findsNone(t, none, id)
		}
	}
	// Who stands in the spare room is not in the book.
	findsNone(t, of(x, y, z)[:2], z.ID)
}

// P24.1: of several entries of one ID the first, whatever they are else.
func TestFindTheFirst(t *testing.T) {
	x := entry(1, api.Runs)
	for _, phase := range anyPhase() {
		first, second := api.Entry{ID: 9, Phase: phase, Level: "first"}, api.Entry{ID: 9, Phase: api.Runs, Level: "second"}
		finds(t, of(first, second), 9, first)
		finds(t, of(second, first), 9, second)
		finds(t, of(x, first, x, second, first), 9, first)
		finds(t, of(x, second, first), 9, second)
		finds(t, of(x, second, first), 1, x)
	}
}

// P24.1: IDs and phases that no request begins with are found all the same, and so is the entry of nothing.
func TestFindAnyEntry(t *testing.T) {
	for _, id := range slices.Concat(known[:], unknown[:]) {
		for _, phase := range anyPhase() {
			x := api.Entry{ID: id, Phase: phase, Level: "b"}
			finds(t, of(x), id, x)
			finds(t, of(entry(5, api.Waits), x), id, x)
			findsNone(t, of(x), 5)
		}
	}
	finds(t, of(api.Entry{}), 0, api.Entry{})
}

// P24.1: each ID from 0 to MaxID with each of the three phases goes behind all others.
func TestBegin(t *testing.T) {
	u, v := entry(5, api.Over), entry(3, api.Waits)
	for _, id := range known {
		for _, phase := range phases {
			x := entry(id, phase)
			for _, none := range nobody() {
				begins(t, none, x, x)
			}
			begins(t, of(u), x, u, x)
			begins(t, of(u, v), x, u, v, x)
			begins(t, of(v, u), x, v, u, x)
		}
	}
}

// P24.1: ErrArg, for IDs below 0 and above MaxID, and for phases below Waits and above Over.
func TestBeginWrong(t *testing.T) {
	books := append(nobody(), of(entry(5, api.Over)), of(entry(5, api.Waits), entry(3, api.Runs)))
	for _, b := range books {
		for _, id := range unknown {
			for _, phase := range anyPhase() {
				beginsNot(t, b, entry(id, phase), api.ErrArg)
			}
		}
		for _, phase := range others() {
			for _, id := range known {
				beginsNot(t, b, entry(id, phase), api.ErrArg)
			}
		}
		beginsNot(t, b, api.Entry{}, api.ErrArg)
	}
}

// P24.1: ErrTwice, wherever the entry of its ID stands, and whatever is in it.
func TestBeginTwice(t *testing.T) {
	u, v := entry(5, api.Over), entry(3, api.Waits)
	for _, id := range known {
		for _, was := range anyPhase() {
			x := api.Entry{ID: id, Phase: was, Level: "first"}
			for _, phase := range phases {
				y := entry(id, phase)
				for _, b := range [][]api.Entry{of(x), of(x, u, v), of(u, x, v), of(u, v, x), of(x, x), of(u, x, v, x)} {
					beginsNot(t, b, y, api.ErrTwice)
				}
				// In the spare room it does not stand.
				begins(t, of(u, v, x)[:2], y, u, v, y)
			}
		}
	}
}

// P24.1: where both are wrong it is ErrArg.
func TestBeginErrArgFirst(t *testing.T) {
	for _, id := range unknown {
		for _, phase := range anyPhase() {
			beginsNot(t, of(entry(id, api.Waits)), entry(id, phase), api.ErrArg)
		}
	}
	for _, id := range known {
		for _, phase := range others() {
			beginsNot(t, of(entry(id, api.Waits)), entry(id, phase), api.ErrArg)
			beginsNot(t, of(entry(id, phase)), entry(id, phase), api.ErrArg)
		}
	}
}

// P24.2: from each phase to those behind it, and to no other one; the first entry, one among them and the last one.
func TestMove(t *testing.T) {
	u, v := api.Entry{ID: 1, Phase: api.Waits, Level: "u"}, api.Entry{ID: 2, Phase: api.Runs, Level: "v"}
	may := [4][4]bool{api.Waits: {api.Runs: true, api.Over: true}, api.Runs: {api.Over: true}}
	for _, id := range []int{0, 7, api.MaxID} {
		for _, from := range phases {
			x := entry(id, from)
			for _, to := range phases {
				y := entry(id, to)
				if may[from][to] {
					moves(t, of(x), id, to, y)
					moves(t, of(x, u, v), id, to, y, u, v)
					moves(t, of(u, x, v), id, to, u, y, v)
					moves(t, of(u, v, x), id, to, u, v, y)
					continue
				}
				for _, b := range [][]api.Entry{of(x), of(x, u, v), of(u, x, v), of(u, v, x)} {
					movesNot(t, b, id, to, api.ErrState)
				}
			}
			for _, to := range others() {
				movesNot(t, of(u, x, v), id, to, api.ErrState)
				movesNot(t, of(x), id, to, api.ErrState)
			}
		}
	}
}

// P24.2: from an entry whose phase is none of the three: each of the three is behind those below them, none is behind
// those above them.
func TestMoveFromNoPhase(t *testing.T) {
	u := entry(1, api.Waits)
	for _, id := range slices.Concat([]int{0, 7}, unknown[:]) {
		for _, from := range below {
			for _, to := range phases {
				moves(t, of(u, entry(id, from)), id, to, u, entry(id, to))
			}
			for _, to := range others() {
				movesNot(t, of(u, entry(id, from)), id, to, api.ErrState)
			}
		}
		for _, from := range above {
			for _, to := range anyPhase() {
				movesNot(t, of(u, entry(id, from)), id, to, api.ErrState)
			}
		}
	}
}

// P24.2: of several entries of one ID the first is asked, and moves alone.
func TestMoveTheFirst(t *testing.T) {
	u := entry(1, api.Waits)
	waits, runs, over := entry(9, api.Waits), entry(9, api.Runs), entry(9, api.Over)
	moves(t, of(waits, waits), 9, api.Runs, runs, waits)
	moves(t, of(u, waits, u, waits), 9, api.Over, u, over, u, waits)
	moves(t, of(waits, over), 9, api.Runs, runs, over)
	moves(t, of(waits, runs, over), 9, api.Over, over, runs, over)
	moves(t, of(runs, waits), 9, api.Over, over, waits)
	movesNot(t, of(runs, waits), 9, api.Runs, api.ErrState)
	movesNot(t, of(over, waits), 9, api.Runs, api.ErrState)
	movesNot(t, of(over, waits), 9, api.Over, api.ErrState)
	movesNot(t, of(u, over, waits, runs), 9, api.Over, api.ErrState)
	moves(t, of(u, over, waits, u), 1, api.Over, entry(1, api.Over), over, waits, u)
}

// P24.2: ErrNone where nobody has the ID, and ahead of ErrState: where the phase is none of the three, too.
func TestMoveNone(t *testing.T) {
	books := append(nobody(), of(entry(5, api.Waits)), of(entry(5, api.Waits), entry(3, api.Runs)), of(entry(5, api.Waits), entry(7, api.Waits))[:1])
	for _, b := range books {
		for _, id := range slices.Concat(known[:], unknown[:]) {
			for _, phase := range anyPhase() {
				movesNot(t, b, id, phase, api.ErrNone)
			}
		}
	}
}

// P24.2: each of the three phases by itself, and none for what is none of them.
func TestCount(t *testing.T) {
	for _, none := range nobody() {
		counts(t, none, 0, 0, 0)
	}
	counts(t, of(entry(1, api.Waits)), 1, 0, 0)
	counts(t, of(entry(1, api.Runs)), 0, 1, 0)
	counts(t, of(entry(1, api.Over)), 0, 0, 1)
	for waits := range 4 {
		for runs := range 4 {
			for over := range 4 {
				var b []api.Entry
				for i, n := range [...]int{waits, runs, over} {
					b = append(b, slices.Repeat(of(entry(9, phases[i])), n)...)
				}
				counts(t, b, waits, runs, over)
				slices.Reverse(b)
				counts(t, b, waits, runs, over)
				for i, phase := range others() {
					counts(t, slices.Insert(slices.Clone(b), i%(len(b)+1), entry(i, phase)), waits, runs, over)
				}
			}
		}
	}
	for _, phase := range others() {
		counts(t, of(entry(1, phase)), 0, 0, 0)
	}
	counts(t, slices.Repeat(of(entry(1, api.Over), entry(2, 0), entry(3, api.Runs), entry(4, 4), entry(5, api.Over)), 10000), 0, 10000, 20000)
}

// P24.1, P24.2: levels' names of any bytes stay as they are, and are not asked.
func TestLevelsStay(t *testing.T) {
	u := api.Entry{ID: 1, Phase: api.Waits, Level: "u"}
	for _, level := range levels {
		for _, other := range levels {
			x, w := api.Entry{ID: 7, Phase: api.Waits, Level: level}, api.Entry{ID: 8, Phase: api.Waits, Level: other}
			y := api.Entry{ID: 7, Phase: api.Over, Level: level}
			begins(t, of(u, w), x, u, w, x)
			beginsNot(t, of(u, x), api.Entry{ID: 7, Phase: api.Waits, Level: other}, api.ErrTwice)
			moves(t, of(u, x, w), 7, api.Over, u, y, w)
			finds(t, of(w, x, u), 7, x)
			findsNone(t, of(w, x, u), 9)
			counts(t, of(w, y, u), 2, 0, 1)
		}
	}
}
