package trace_test

import (
	"math"
	"regexp"
	"slices"
	"strconv"
	"strings"
	"testing"

	"usher/api"
	"usher/trace"
)

// random are numbers, the same ones each time.
type random uint64

func (r *random) next() uint64 {
	x := uint64(*r)
	x ^= x << 13
	x ^= x >> 7
	x ^= x << 17
	*r = random(x)
	return x
}

func (r *random) below(n int) int { return int((r.next() >> 11) % uint64(n)) }

func pick[T any](r *random, of ...T) T { return of[r.below(len(of))] }

// mostly what is right, else what is wrong.
func mostly[T any](r *random, right, wrong T) T {
	if r.below(30) > 0 {
		return right
	}
	return wrong
}

const seed = random(88172645463325252)

// What follows is the chapter once more, by other means: a line is held against one pattern a kind, a value is
// looked at by its fields.

var (
	pieces = strings.NewReplacer(
		"AT", "(?P<at>0|[1-9][0-9]{0,8})", "ID", "(?P<id>0|[1-9][0-9]{0,8})", "LEVEL", "(?P<level>[a-z][a-z0-9-]{0,31})",
		"SEATS", "(?P<seats>[1-9]|1[0-6])", "WHY", "(?P<why>[1-9][0-9]?)", "DIGEST", "(?P<digest>[0-9a-f]{16})")
	patterns = []*regexp.Regexp{
		pattern("AT started ID LEVEL SEATS"), pattern("AT refused ID LEVEL WHY"), pattern("AT late ID LEVEL"),
		pattern("AT gone ID LEVEL"), pattern("AT ended ID LEVEL"), pattern("AT wrong WHY"), pattern("AT loaded DIGEST"),
	}
	aName = regexp.MustCompile(`\A[a-z][a-z0-9-]{0,31}\z`)
)

func pattern(line string) *regexp.Regexp {
	return regexp.MustCompile(`\A` + pieces.Replace(line) + `\z`)
}

func wantRead(line string) (api.Told, api.Errno) {
	for i, p := range patterns {
		m := p.FindStringSubmatch(line)
		if m == nil {
			continue
		}
		told := api.Told{Kind: i + 1}
		for j, name := range p.SubexpNames() {
			n, _ := strconv.Atoi(m[j])
			switch name {
			case "at":
				told.At = n
			case "id":
				told.ID = n
			case "level":
				told.Level = m[j]
			case "seats":
				told.Seats = n
			case "why":
				told.Why = api.Errno(n)
			case "digest":
				told.Digest, _ = strconv.ParseUint(m[j], 16, 64)
			}
		}
		return told, 0
	}
	return api.Told{}, 2
}

func wantWrite(t api.Told) (string, api.Errno) {
	within := func(n, least, most int) bool { return least <= n && n <= most }
	ofRequest := t.Kind >= 1 && t.Kind <= 5
	var right bool
	switch t.Kind {
	case 1:
		right = within(t.Seats, 1, 16) && t.Why == 0 && t.Digest == 0
	case 2:
		right = within(int(t.Why), 1, 99) && t.Seats == 0 && t.Digest == 0
	case 3, 4, 5:
		right = t.Seats == 0 && t.Why == 0 && t.Digest == 0
	case 6:
		right = within(int(t.Why), 1, 99) && t.Seats == 0 && t.Digest == 0
	case 7:
		right = t.Seats == 0 && t.Why == 0
	}
	right = right && within(t.At, 0, 999999999)
	if ofRequest {
		right = right && within(t.ID, 0, 999999999) && aName.MatchString(t.Level)
	} else {
		right = right && t.ID == 0 && t.Level == ""
	}
	if !right {
		return "", 2
	}
	return likely(t), 0
}

// likely is the line of a value, if it has one.
func likely(t api.Told) string {
	digits := strconv.FormatUint(t.Digest, 16)
	digest := strings.Repeat("0", 16-len(digits)) + digits
	head := strconv.Itoa(t.At) + " "
	behind := " " + strconv.Itoa(t.ID) + " " + t.Level
	switch t.Kind {
	case 1:
		return head + "started" + behind + " " + strconv.Itoa(t.Seats)
	case 2:
		return head + "refused" + behind + " " + strconv.Itoa(int(t.Why))
	case 3:
		return head + "late" + behind
	case 4:
		return head + "gone" + behind
	case 5:
		return head + "ended" + behind
	case 6:
		return head + "wrong " + strconv.Itoa(int(t.Why))
	case 7:
		return head + "loaded " + digest
	}
	return head
}

// What is drawn: numbers, names, digests, values and lines, of which some may not stand where they do.

// number at the edges of what it may be, or any.
func (r *random) number(least, most int) int {
	return mostly(r, pick(r, least, least+1, most, most-1, least+r.below(most-least+1)), pick(r, -1, least-1, most+1, api.MaxID+1, 1<<32+1, math.MinInt, math.MaxInt, int(r.next()), -r.below(1000)))
}

func (r *random) name() string {
	b := []byte{'a' + byte(r.below(26))}
	for range pick(r, 0, 0, 1, 2, r.below(api.MaxName)) {
		b = append(b, pick[byte](r, 'a', 'z', '0', '9', '-', 'a'+byte(r.below(26))))
	}
	return mostly(r, string(b), pick(r, pick(r, noNames[:]...), string(b)+pick(r, " ", "  2", notBlank[0], longest), " "+string(b), strings.ToUpper(string(b))))
}

func (r *random) digest() uint64 {
	return pick(r, 0, 1, 255, math.MaxUint64, 1<<63, r.next(), r.next()>>r.below(64))
}

// told of a kind, and what the kind names, mostly.
func (r *random) told() api.Told {
	t := api.Told{At: r.number(0, api.MaxID), Kind: pick(r, kinds[:]...)}
	if t.Kind <= api.Ended {
		t.ID, t.Level = r.number(0, api.MaxID), r.name()
	}
	switch t.Kind {
	case api.Started:
		t.Seats = r.number(1, api.MaxWidth)
	case api.Refused, api.Wrong:
		t.Why = api.Errno(r.number(1, api.MaxErr))
	case api.Loaded:
		t.Digest = r.digest()
	}
	if r.below(10) > 0 {
		return t
	}
	switch r.below(6) {
	case 0:
		t.ID = r.number(0, 9)
	case 1:
		t.Level = pick(r, "", "a")
	case 2:
		t.Seats = r.number(0, 9)
	case 3:
		t.Why = api.Errno(r.number(0, 9))
	case 4:
		t.Digest = r.digest()
	case 5:
		t.Kind = pick(r, pick(r, kinds[:]...), pick(r, noKinds[:]...))
	}
	return t
}

// line of a value that is drawn, now and then with a word more or less or another one, or another byte.
func (r *random) line() string {
	line := likely(r.told())
	w := strings.Split(line, " ")
	switch r.below(12) {
	case 0:
		w = slices.Insert(w, r.below(len(w)+1), pick(r, "", "1", "a", "late"))
	case 1:
		w = slices.Delete(w, r.below(len(w)), len(w))
	case 2:
		w[r.below(len(w))] = pick(r, "1", "2", "a", "late", "ended", "wrong", "loaded", pick(r, noNumbers[:]...), pick(r, noNames[:]...), pick(r, noDigests[:]...))
	case 3:
		at := r.below(len(w))
		w = slices.Delete(w, at, at+1)
	}
	b := []byte(strings.Join(w, " "))
	if len(b) > 0 && r.below(12) == 0 {
		b[r.below(len(b))] = pick(r, ' ', '0', '1', '9', 'a', 'A', '-', '\n', '\t', byte(r.next()>>30))
	}
	return string(b)
}

// P27.2: what the chapter says of a line, drawn: each kind, read, comes up, and much that is refused.
func TestReadIsTheChapter(t *testing.T) {
	r := seed
	var seen [8]int
	for range 100000 {
		line := r.line()
		want, wantErr := wantRead(line)
		got, e := trace.Read(line)
		if e != wantErr || got != want {
			t.Fatalf("Read(%q) = %+v, %v; want %+v, %v", line, got, e, want, wantErr)
		}
		seen[want.Kind]++
	}
	for kind, n := range seen {
		if n < 2000 {
			t.Errorf("kind %d: %d were read", kind, n)
		}
	}
}

// P27.1: what the chapter says of a value, drawn: each kind, written and refused, comes up.
func TestWriteIsTheChapter(t *testing.T) {
	r := seed
	var written, not [8]int
	for range 100000 {
		told := r.told()
		want, wantErr := wantWrite(told)
		got, e := trace.Write(told)
		if e != wantErr || got != want {
			t.Fatalf("Write(%+v) = %q, %v; want %q, %v", told, got, e, want, wantErr)
		}
		switch {
		case told.Kind < 1 || told.Kind > 7:
			not[0]++
		case e == api.OK:
			written[told.Kind]++
		default:
			not[told.Kind]++
		}
	}
	for kind := range 8 {
		if kind > 0 && written[kind] < 5000 || not[kind] < 300 {
			t.Errorf("kind %d: %d written, %d refused", kind, written[kind], not[kind])
		}
	}
}
