package trace_test

import (
	"math"
	"strings"
	"testing"

	"usher/api"
	"usher/trace"
)

// Rule 4: what is answered hangs on the arguments alone: told between others, too, it is the same.
func TestTheSameAgain(t *testing.T) {
	r := seed
	for range 20000 {
		told, line := r.told(), r.line()
		written, writeErr := trace.Write(told)
		read, readErr := trace.Read(line)
		_, _ = trace.Write(r.told())
		_, _ = trace.Read(r.line())
		if again, e := trace.Write(told); again != written || e != writeErr {
			t.Fatalf("Write(%+v) = %q, %v; then %q, %v", told, written, writeErr, again, e)
		}
		if again, e := trace.Read(line); again != read || e != readErr {
			t.Fatalf("Read(%q) = %+v, %v; then %+v, %v", line, read, readErr, again, e)
		}
	}
}

// Rule 3: what is read does not hang on the bytes that the line was made of, and what is written stays as it was.
func TestNothingIsKept(t *testing.T) {
	b := []byte("5 started 7 level-a 2")
	line := string(b)
	told, _ := trace.Read(line)
	for i := range b {
		b[i] = 'x'
	}
	if line != "5 started 7 level-a 2" || told != started(5, 7, "level-a", 2) {
		t.Fatalf("%q is read %+v", line, told)
	}
	handed := told
	written, _ := trace.Write(handed)
	handed.Level = "other"
	if written != line || told != started(5, 7, "level-a", 2) {
		t.Fatalf("%+v is written %q", told, written)
	}
}

// Rule 2: beside an error there is nothing; rule 1: every call ends, and none panics, whatever is handed in.
func TestAnyArguments(t *testing.T) {
	r := seed
	for range 50000 {
		b := make([]byte, r.below(40))
		for i := range b {
			b[i] = pick(&r, ' ', ' ', '0', '1', '9', 'a', '-', 'l', 'o', byte(r.next()>>30))
		}
		line := pick(&r, "", "1 started ", "1 late ", "1 wrong ", "1 loaded ", "1") + string(b)
		told, e := trace.Read(line)
		if want, wantErr := wantRead(line); told != want || e != wantErr {
			t.Fatalf("Read(%q) = %+v, %v; want %+v, %v", line, told, e, want, wantErr)
		}
		n := func() int { return pick(&r, math.MinInt, math.MaxInt, -1, 0, 0, 1, 2, 5, int(r.next())) }
		told = api.Told{At: n(), Kind: pick(&r, r.below(9), n()), ID: n(), Level: string(b[:r.below(len(b)+1)]), Seats: n(), Why: api.Errno(n()), Digest: uint64(n())}
		got, e := trace.Write(told)
		if want, wantErr := wantWrite(told); got != want || e != wantErr {
			t.Fatalf("Write(%+v) = %q, %v; want %q, %v", told, got, e, want, wantErr)
		}
	}
}

// Rule 1: it ends of much, too.
func TestMuch(t *testing.T) {
	for _, piece := range []string{" ", "x", "1 ", "9", "0", "a", "\xff", "late", "late ", "1 late 7 a ", "\n"} {
		much := strings.Repeat(piece, 1<<22/len(piece))
		for _, head := range []string{"", "1", "1 ", "1 late ", "1 late 7 ", "1 late 7 a", "1 late 7 a ", "1 started 7 a ", "1 wrong ", "1 loaded ", " "} {
			readsNot(t, head+much)
		}
		for _, kind := range kinds {
			writesNot(t, api.Told{At: 5, Kind: kind, ID: 7, Level: much})
		}
	}
}
