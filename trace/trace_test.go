package trace_test

import (
	"math"
	"strconv"
	"strings"
	"testing"

	"usher/api"
	"usher/trace"
)

var (
	kinds = [...]int{api.Started, api.Refused, api.Late, api.Gone, api.Ended, api.Wrong, api.Loaded}
	// noKinds are kinds that there aren't.
	noKinds = [...]int{math.MinInt, -1 << 32, -7, -1, 0, 8, 9, 256 + 1, 1<<32 + 1, 1<<32 + 7, math.MaxInt}
	// notBlank are bytes, and pieces of texts, that part no words, though some look like blanks.
	notBlank = [...]string{"\t", "\n", "\r", "\v", "\f", "\x00", "\x1f", "\x7f", "\x80", "\x85", "\xa0", "\xff", "\u0085", "\u00a0", "\u2003", "\u3000", "é", "ｎ"}
	// noNumbers are pieces that are no numbers of layer 8, or are beyond what all numbers of a line may be.
	noNumbers = [...]string{"", "-", "x", "-1", "-0", "+1", "+0", "00", "01", "05", "007", "1.", "1.0", "1e3", "0x1", "1_0", "1,0", "1x", "x1", "1000000000", "4294967296", "4294967297", "18446744073709551616", "18446744073709551617", "000000001", "0000000001", strings.Repeat("9", 400), strings.Repeat("0", 400), "١", "\xff", "1\t", "\n1", "1;"}
	// noNames are pieces that are no names of layer 8.
	noNames = [...]string{"", "-", "*", "A", "7", "7a", "-a", "aA", "Aa", "a.b", "a_b", "a:b", "a/b", "a@b", "a,b", "a;b", "a\tb", "a\n", "\ra", "é", "aé", "\xff", "a\x00", "a`", "{", "a{", strings.Repeat("a", api.MaxName+1), strings.Repeat("a", 4*api.MaxName)}
	// noDigests are pieces that are not sixteen digits of layer 8.
	noDigests = [...]string{"", "0", "ff", "-", "000000000000000", "00000000000000000", "ffffffffffffffff0", "fffffffffffffff", "000000000000000g", "g000000000000000", "00000000000000FF", "FFFFFFFFFFFFFFFF", "0x000000000000ff", "-000000000000001", "+000000000000001", "00000000_0000000", "000000000000000\t", "000000000000000\xff", "000000000000000:", "000000000000000/", "000000000000000`", "00000000000000é", strings.Repeat("0", 32), strings.Repeat("0", 400)}
	longest   = "a" + strings.Repeat("-9z", api.MaxName)[:api.MaxName-1]
)

func started(at, id int, level string, seats int) api.Told {
	return api.Told{At: at, Kind: api.Started, ID: id, Level: level, Seats: seats}
}

func refused(at, id int, level string, why api.Errno) api.Told {
	return api.Told{At: at, Kind: api.Refused, ID: id, Level: level, Why: why}
}

func late(at, id int, level string) api.Told {
	return api.Told{At: at, Kind: api.Late, ID: id, Level: level}
}

func gone(at, id int, level string) api.Told {
	return api.Told{At: at, Kind: api.Gone, ID: id, Level: level}
}

func ended(at, id int, level string) api.Told {
	return api.Told{At: at, Kind: api.Ended, ID: id, Level: level}
}

func wrong(at int, why api.Errno) api.Told { return api.Told{At: at, Kind: api.Wrong, Why: why} }

func loaded(at int, digest uint64) api.Told {
	return api.Told{At: at, Kind: api.Loaded, Digest: digest}
}

// each is one of each kind, with its line.
func each() ([]api.Told, []string) {
	return []api.Told{started(5, 7, "a-1", 2), refused(5, 7, "a-1", 9), late(5, 7, "a-1"), gone(5, 7, "a-1"), ended(5, 7, "a-1"), wrong(5, 9), loaded(5, 0xabc)},
		[]string{"5 started 7 a-1 2", "5 refused 7 a-1 9", "5 late 7 a-1", "5 gone 7 a-1", "5 ended 7 a-1", "5 wrong 9", "5 loaded 0000000000000abc"}
}

// ofRequests are the words of those kinds that tell of a request, each with what stands behind the level.
func ofRequests() map[string]string {
	return map[string]string{"started": " 2", "refused": " 9", "late": "", "gone": "", "ended": ""}
}

// tells: the line is read as told, and told is written as the line.
func tells(t *testing.T, line string, told api.Told) {
	t.Helper()
	if got, e := trace.Read(line); e != api.OK || got != told {
		t.Errorf("Read(%q) = %+v, %v; want %+v", line, got, e, told)
	}
	if got, e := trace.Write(told); e != api.OK || got != line {
		t.Errorf("Write(%+v) = %q, %v; want %q", told, got, e, line)
	}
}

// readsNot, and what stands beside the error is the zero Told.
func readsNot(t *testing.T, line string) {
	t.Helper()
	if got, e := trace.Read(line); e != api.ErrForm || got != (api.Told{}) {
		t.Errorf("Read(%q) = %+v, %v; want %v", line, got, e, api.ErrForm)
	}
}

// writesNot, and the text beside the error is the empty one.
func writesNot(t *testing.T, told api.Told) {
	t.Helper()
	if got, e := trace.Write(told); e != api.ErrForm || got != "" {
		t.Errorf("Write(%+v) = %q, %v; want %v", told, got, e, api.ErrForm)
	}
}

// P27.1, P27.2: the chapter's examples.
func TestExamples(t *testing.T) {
	tells(t, "5 started 7 a 2", api.Told{At: 5, Kind: api.Started, ID: 7, Level: "a", Seats: 2})
	readsNot(t, "05 late 7 a")
}

// P27.1, P27.2: each kind, at its place the fields that it names; the others are zero.
func TestEachKind(t *testing.T) {
	told, lines := each()
	for i := range told {
		tells(t, lines[i], told[i])
	}
	tells(t, "1 started 2 b 3", started(1, 2, "b", 3))
	tells(t, "1 refused 2 b 3", refused(1, 2, "b", 3))
	tells(t, "1 late 2 b", late(1, 2, "b"))
	tells(t, "1 gone 2 b", gone(1, 2, "b"))
	tells(t, "1 ended 2 b", ended(1, 2, "b"))
	tells(t, "1 wrong 2", wrong(1, 2))
	tells(t, "1 loaded 0123456789abcdef", loaded(1, 0x0123456789abcdef))
}

// P27.1, P27.2: AT, of each kind, from 0 to MaxID.
func TestAt(t *testing.T) {
	told, lines := each()
	for i, line := range lines {
		_, rest, _ := strings.Cut(line, " ")
		for _, at := range []int{0, 1, 9, 10, 99, 100, 12345, 1<<16 + 1, 99999999, 100000000, api.MaxID - 1, api.MaxID} {
			told[i].At = at
			tells(t, strconv.Itoa(at)+" "+rest, told[i])
		}
		for _, at := range []int{api.MaxID + 1, -1, -5, -api.MaxID, 1<<32 + 5, math.MinInt, math.MaxInt} {
			told[i].At = at
			writesNot(t, told[i])
			readsNot(t, strconv.Itoa(at)+" "+rest)
		}
		for _, at := range noNumbers {
			readsNot(t, at+" "+rest)
		}
		readsNot(t, rest)
	}
}

// P27.1, P27.2: ID, of each kind that tells of a request, from 0 to MaxID.
func TestID(t *testing.T) {
	told, lines := each()
	for i, line := range lines[:5] {
		w := strings.Split(line, " ")
		with := func(id string) string {
			w[2] = id
			return strings.Join(w, " ")
		}
		for _, id := range []int{0, 1, 9, 10, 99, 100, 12345, 1<<16 + 1, 99999999, 100000000, api.MaxID - 1, api.MaxID} {
			told[i].ID = id
			tells(t, with(strconv.Itoa(id)), told[i])
		}
		for _, id := range []int{api.MaxID + 1, -1, -7, -api.MaxID, 1<<32 + 7, math.MinInt, math.MaxInt} {
			told[i].ID = id
			writesNot(t, told[i])
			readsNot(t, with(strconv.Itoa(id)))
		}
		for _, id := range noNumbers {
			readsNot(t, with(id))
		}
	}
}

// P27.1, P27.2: LEVEL, of each kind that tells of a request, is a name.
func TestLevel(t *testing.T) {
	told, lines := each()
	for i, line := range lines[:5] {
		w := strings.Split(line, " ")
		with := func(level string) string {
			w[3] = level
			return strings.Join(w, " ")
		}
		for _, level := range []string{"a", "z", "a-", "a--", "a0", "z9", "catch-all", "exempt", "started", "late", longest[:api.MaxName-1], longest, strings.Repeat("z", api.MaxName)} {
			told[i].Level = level
			tells(t, with(level), told[i])
		}
		for _, level := range noNames {
			told[i].Level = level
			writesNot(t, told[i])
			readsNot(t, with(level))
		}
		// A name that would come to be two words, or a name and a blank, is none.
		for _, level := range []string{" ", " a", "a ", "a b", "a 2", "a  2", "a 9", "7 a"} {
			told[i].Level = level
			writesNot(t, told[i])
			readsNot(t, with(level))
		}
	}
	// Each byte, first and further on.
	for b := range 256 {
		sign := string([]byte{byte(b)})
		small := b >= 'a' && b <= 'z'
		for level, name := range map[string]bool{sign: small, sign + "a": small, "a" + sign: small || b == '-' || b >= '0' && b <= '9'} {
			if name {
				tells(t, "5 late 7 "+level, late(5, 7, level))
				continue
			}
			writesNot(t, late(5, 7, level))
			readsNot(t, "5 late 7 "+level)
		}
	}
}

// P27.1, P27.2: SEATS from 1 to MaxWidth.
func TestSeats(t *testing.T) {
	for seats := -20; seats < 200; seats++ {
		line := "5 started 7 a " + strconv.Itoa(seats)
		if seats >= 1 && seats <= 16 {
			tells(t, line, started(5, 7, "a", seats))
			continue
		}
		readsNot(t, line)
		writesNot(t, started(5, 7, "a", seats))
	}
	for _, seats := range []int{256 + 1, 1<<16 + 2, 1<<32 + 2, math.MinInt, math.MinInt + 2, math.MaxInt} {
		readsNot(t, "5 started 7 a "+strconv.Itoa(seats))
		writesNot(t, started(5, 7, "a", seats))
	}
	for _, seats := range noNumbers {
		readsNot(t, "5 started 7 a "+seats)
	}
}

// P27.1, P27.2: WHY from 1 to MaxErr, be it an error of api's or none.
func TestWhy(t *testing.T) {
	for why := -20; why < 300; why++ {
		number := strconv.Itoa(why)
		if why >= 1 && why <= 99 {
			tells(t, "5 refused 7 a "+number, refused(5, 7, "a", api.Errno(why)))
			tells(t, "5 wrong "+number, wrong(5, api.Errno(why)))
			continue
		}
		readsNot(t, "5 refused 7 a "+number)
		readsNot(t, "5 wrong "+number)
		writesNot(t, refused(5, 7, "a", api.Errno(why)))
		writesNot(t, wrong(5, api.Errno(why)))
	}
	for _, why := range []int{256 + 1, 1<<16 + 2, 1<<32 + 2, math.MinInt, math.MinInt + 2, math.MaxInt} {
		writesNot(t, refused(5, 7, "a", api.Errno(why)))
		writesNot(t, wrong(5, api.Errno(why)))
	}
	for _, why := range noNumbers {
		readsNot(t, "5 refused 7 a "+why)
		readsNot(t, "5 wrong "+why)
	}
}

// P27.1, P27.2: DIGEST, any number of 64 bits in sixteen digits.
func TestDigest(t *testing.T) {
	for digest, digits := range map[uint64]string{
		0: "0000000000000000", 1: "0000000000000001", 9: "0000000000000009", 10: "000000000000000a", 255: "00000000000000ff",
		1 << 32: "0000000100000000", 1 << 62: "4000000000000000", 1 << 63: "8000000000000000", 1<<63 - 1: "7fffffffffffffff",
		math.MaxUint64: "ffffffffffffffff", math.MaxUint64 - 1: "fffffffffffffffe", 0xfedcba9876543210: "fedcba9876543210",
	} {
		tells(t, "5 loaded "+digits, loaded(5, digest))
	}
	for _, digits := range noDigests {
		readsNot(t, "5 loaded "+digits)
	}
	// Each byte at each place of the digits.
	for place := range 16 {
		for b := range 256 {
			digits := []byte("0123456789abcdef")
			digits[place] = byte(b)
			digest, err := strconv.ParseUint(string(digits), 16, 64)
			if err != nil || b >= 'A' && b <= 'F' {
				readsNot(t, "5 loaded "+string(digits))
			} else {
				tells(t, "5 loaded "+string(digits), loaded(5, digest))
			}
		}
	}
}

// P27.2: ErrForm of a line without a word.
func TestNoWord(t *testing.T) {
	for n := range 40 {
		readsNot(t, strings.Repeat(" ", n))
	}
	for _, sign := range notBlank {
		readsNot(t, sign)
		readsNot(t, " "+sign+" ")
	}
}

// P27.2: ErrForm of blanks ahead, behind, or more than one, or of none, between any two words.
func TestBlanks(t *testing.T) {
	_, lines := each()
	for _, line := range lines {
		w := strings.Split(line, " ")
		for n := 1; n < 20; n++ {
			gap := strings.Repeat(" ", n)
			readsNot(t, gap+line)
			readsNot(t, line+gap)
			readsNot(t, gap+line+gap)
			for i := 1; i < len(w); i++ {
				readsNot(t, strings.Join(w[:i], " ")+" "+gap+strings.Join(w[i:], " "))
			}
		}
		for i := 1; i < len(w); i++ {
			readsNot(t, strings.Join(w[:i], " ")+strings.Join(w[i:], " "))
		}
		readsNot(t, strings.Join(w, ""))
	}
}

// P27.2: a blank is the byte 32 and none else; ErrForm of any other byte ahead, behind, between and within words.
func TestWhatIsNoBlank(t *testing.T) {
	_, lines := each()
	for _, line := range lines {
		for _, sign := range notBlank {
			for i := range len(line) + 1 {
				readsNot(t, line[:i]+sign+line[i:])
				if i < len(line) {
					readsNot(t, line[:i]+sign+line[i+1:])
				}
			}
			readsNot(t, strings.ReplaceAll(line, " ", sign))
			readsNot(t, strings.ReplaceAll(line, " ", " "+sign))
			readsNot(t, strings.ReplaceAll(line, " ", sign+" "))
		}
	}
}

// P27.2: ErrForm of each kind with words too few, at any place, and with words too many, at any place.
func TestWordsTooFewAndTooMany(t *testing.T) {
	told, lines := each()
	for i, line := range lines {
		w := strings.Split(line, " ")
		for n := range w {
			readsNot(t, strings.Join(w[:n], " "))
			readsNot(t, strings.Join(w[n+1:], " "))
			readsNot(t, strings.Join(append(append([]string{}, w[:n]...), w[n+1:]...), " "))
		}
		for n := range len(w) + 1 {
			for _, more := range []string{"1", "2", "7", "a", "a-1", "late", "-", "x", "0000000000000000", "1 1", "a 1", "1 2 3 4 5 6 7"} {
				longer := strings.Join(append(append(append([]string{}, w[:n]...), more), w[n:]...), " ")
				// A line of one kind may be the line of no other one, with no word more.
				readsNot(t, longer)
			}
		}
		tells(t, line, told[i])
		readsNot(t, line+" "+line)
		readsNot(t, line+"\n"+line)
		readsNot(t, line+"\n")
	}
}

// P27.2: ErrForm of a second word that is none of the seven, like them though it is.
func TestNoKindsWord(t *testing.T) {
	none := []string{"", "new", "done", "drop", "tick", "load", "run", "start", "refuse", "end", "go", "lateness", "0", "1", "7", "-", "*", "a", "error"}
	for _, word := range []string{"started", "refused", "late", "gone", "ended", "wrong", "loaded"} {
		for i := range word {
			none = append(none, word[:i], word[i+1:], word[:i]+word[i+1:], word[:i]+strings.ToUpper(word[i:i+1])+word[i+1:])
		}
		none = append(none, word+"s", word+"-", word+"0", word+word, "a"+word, "-"+word, word+"\t", word+"\n", "\t"+word, word+"\x00", word+"\xff", strings.ToUpper(word), word+",", word+":")
	}
	for _, word := range none {
		for _, rest := range []string{"", " ", " 7 a 2", " 7 a 9", " 7 a", " 9", " 0000000000000abc", " 7", " a"} {
			readsNot(t, "5 "+word+rest)
		}
	}
	// A kind's word stands second, not at another place.
	for _, line := range []string{"started 5 7 a 2", "5 7 late a", "5 7 a late", "late 5 7 a", "wrong 5 9", "5 9 wrong", "loaded 5 0000000000000abc", "5 0000000000000abc loaded", "5 5 late 7 a", "late late 7 a"} {
		readsNot(t, line)
	}
}

// P27.2: one kind's words behind it are not another one's, but for those that are alike.
func TestOneKindsWordsBehindAnother(t *testing.T) {
	_, lines := each()
	number := func(word string) bool { return word == "started" || word == "refused" }
	bare := func(word string) bool { return word == "late" || word == "gone" || word == "ended" }
	for _, line := range lines {
		w := strings.SplitN(line, " ", 3)
		for _, other := range lines {
			x := strings.SplitN(other, " ", 3)
			mixed := "5 " + w[1] + " " + x[2]
			if w[1] == x[1] || number(w[1]) && number(x[1]) || bare(w[1]) && bare(x[1]) {
				if back, e := trace.Read(mixed); e != api.OK || back == (api.Told{}) {
					t.Errorf("Read(%q) = %+v, %v", mixed, back, e)
				}
				continue
			}
			readsNot(t, mixed)
		}
	}
	// What is a why is not always a number of seats.
	tells(t, "5 refused 7 a 17", refused(5, 7, "a", 17))
	readsNot(t, "5 started 7 a 17")
}

// P27.2: ErrForm where several words may not be, too; and each word that may not be is refused alone.
func TestManyWrongWords(t *testing.T) {
	for word, behind := range ofRequests() {
		right := []string{"5", word, "7", "a", strings.TrimSpace(behind)}
		not := []string{"05", "Late", "-7", "A", "0"}
		if behind == "" {
			right, not = right[:4], not[:4]
		}
		for set := range 1 << len(right) {
			w := append([]string{}, right...)
			for i := range w {
				if set>>i&1 == 1 {
					w[i] = not[i]
				}
			}
			line := strings.Join(w, " ")
			if _, e := trace.Read(line); (e == api.OK) != (set == 0) {
				t.Errorf("Read(%q): %v", line, e)
			}
			if set > 0 {
				readsNot(t, line)
			}
		}
	}
}

// P27.1: ErrForm of a field that the kind does not name and that isn't zero, one at a time.
func TestWhatAKindDoesNotName(t *testing.T) {
	fields := map[string]func(told *api.Told){
		"ID":           func(told *api.Told) { told.ID = 1 },
		"ID below":     func(told *api.Told) { told.ID = -1 },
		"ID above":     func(told *api.Told) { told.ID = api.MaxID + 1 },
		"Level":        func(told *api.Told) { told.Level = "a" },
		"no Level":     func(told *api.Told) { told.Level = " " },
		"Seats":        func(told *api.Told) { told.Seats = 1 },
		"Seats below":  func(told *api.Told) { told.Seats = -1 },
		"Seats above":  func(told *api.Told) { told.Seats = api.MaxWidth + 1 },
		"Why":          func(told *api.Told) { told.Why = 1 },
		"Why below":    func(told *api.Told) { told.Why = -1 },
		"Why above":    func(told *api.Told) { told.Why = api.MaxErr + 1 },
		"Digest":       func(told *api.Told) { told.Digest = 1 },
		"Digest above": func(told *api.Told) { told.Digest = math.MaxUint64 },
	}
	named := map[int][]string{
		api.Started: {"ID", "Level", "Seats"},
		api.Refused: {"ID", "Level", "Why"},
		api.Late:    {"ID", "Level"},
		api.Gone:    {"ID", "Level"},
		api.Ended:   {"ID", "Level"},
		api.Wrong:   {"Why"},
		api.Loaded:  {"Digest", "Digest above"},
	}
	told, _ := each()
	for _, usual := range told {
		for name, set := range fields {
			other := usual
			set(&other)
			may := false
			for _, n := range named[usual.Kind] {
				may = may || n == name
			}
			if !may {
				writesNot(t, other)
			} else if line, e := trace.Write(other); e != api.OK || line == "" {
				t.Errorf("Write(%+v) = %q, %v", other, line, e)
			}
		}
	}
}

// P27.1: ErrForm of a field that the kind names and that is zero, where it may not be.
func TestWhatAKindNames(t *testing.T) {
	for _, kind := range kinds {
		bare := api.Told{At: 5, Kind: kind}
		if kind == api.Loaded {
			tells(t, "5 loaded 0000000000000000", bare)
		} else {
			writesNot(t, bare)
		}
	}
	writesNot(t, started(5, 7, "", 2))
	writesNot(t, started(5, 7, "a", 0))
	writesNot(t, refused(5, 7, "", 9))
	writesNot(t, refused(5, 7, "a", 0))
	writesNot(t, late(5, 7, ""))
	writesNot(t, gone(5, 7, ""))
	writesNot(t, ended(5, 7, ""))
	writesNot(t, wrong(5, 0))
}

// P27.1: ErrForm of a kind that there isn't, whatever stands in the fields.
func TestNoKind(t *testing.T) {
	all, _ := each()
	for _, kind := range noKinds {
		writesNot(t, api.Told{Kind: kind})
		writesNot(t, api.Told{At: 5, Kind: kind})
		for _, told := range all {
			told.Kind = kind
			writesNot(t, told)
		}
	}
	writesNot(t, api.Told{})
	// One kind's fields are not another one's, but for those that name a request and its level alone.
	bare := func(kind int) bool { return kind == api.Late || kind == api.Gone || kind == api.Ended }
	for _, kind := range kinds {
		for _, told := range all {
			same := told.Kind == kind || bare(told.Kind) && bare(kind)
			told.Kind = kind
			if !same {
				writesNot(t, told)
			} else if line, e := trace.Write(told); e != api.OK || line == "" {
				t.Errorf("Write(%+v) = %q, %v", told, line, e)
			}
		}
	}
}
