package trace_test

import (
	"strconv"
	"strings"
	"testing"

	"usher/api"
	"usher/trace"
	"usher/words"
)

// P27.3: Read of Write(t) is t, whatever t is, if it may be written.
func TestReadOfWrite(t *testing.T) {
	r := seed
	written := 0
	for range 100000 {
		told := r.told()
		line, e := trace.Write(told)
		if e != api.OK {
			continue
		}
		written++
		if back, e := trace.Read(line); e != api.OK || back != told {
			t.Fatalf("%+v is written %q, and read %+v, %v", told, line, back, e)
		}
	}
	if written < 50000 {
		t.Errorf("%d were written", written)
	}
}

// P27.3: Write of what Read makes is the line, byte for byte.
func TestWriteOfRead(t *testing.T) {
	r := seed
	read := 0
	for range 100000 {
		line := r.line()
		told, e := trace.Read(line)
		if e != api.OK {
			continue
		}
		read++
		if back, e := trace.Write(told); e != api.OK || back != line {
			t.Fatalf("%q is read %+v, and written %q, %v", line, told, back, e)
		}
	}
	if read < 50000 {
		t.Errorf("%d were read", read)
	}
}

// P27.1: Write refuses just those values that no line tells: the line that a refused one would have, if any, is read
// as another one, or not at all.
func TestWhatIsRefusedIsReadNowhere(t *testing.T) {
	r := seed
	refused := 0
	for range 100000 {
		told := r.told()
		if _, e := trace.Write(told); e == api.OK {
			continue
		}
		refused++
		for _, line := range []string{likely(told), strings.TrimSpace(likely(told)), strings.Join(words.Words(likely(told)), " ")} {
			if got, e := trace.Read(line); e == api.OK && got == told {
				t.Fatalf("%q is read %+v, which is not written", line, got)
			}
		}
	}
	if refused < 5000 {
		t.Errorf("%d were refused", refused)
	}
}

// P27.2: Read refuses just those lines that Write does not write: whatever value a refused line may have been meant
// for is written otherwise, or not at all.
func TestWhatIsNotReadIsWrittenNowhere(t *testing.T) {
	r := seed
	refused := 0
	for range 100000 {
		line := r.line()
		if _, e := trace.Read(line); e == api.OK {
			continue
		}
		refused++
		for _, told := range meant(line) {
			if got, e := trace.Write(told); e == api.OK && got == line {
				t.Fatalf("%+v is written %q, which is not read", told, got)
			}
		}
	}
	if refused < 5000 {
		t.Errorf("%d were refused", refused)
	}
}

// meant are the values of any kind that have a line's pieces where the line has them, the last one as any field.
func meant(line string) []api.Told {
	w := append(strings.Split(line, " "), "", "", "", "", "")
	number := func(s string) int {
		n, _ := strconv.Atoi(s)
		return n
	}
	var all []api.Told
	for _, kind := range kinds {
		at, id := number(w[0]), number(w[2])
		digest, _ := strconv.ParseUint(w[2], 16, 64)
		all = append(all, started(at, id, w[3], number(w[4])), api.Told{At: at, Kind: kind, ID: id, Level: w[3]},
			refused(at, id, w[3], api.Errno(number(w[4]))), wrong(at, api.Errno(id)), loaded(at, digest))
	}
	return all
}

// P27.3: so no two lines tell the same: of two that differ in one byte at most one is read, or each tells something else.
func TestOneByte(t *testing.T) {
	_, lines := each()
	r := seed
	for range 200 {
		if line := r.line(); len(line) < 100 {
			lines = append(lines, line)
		}
	}
	for _, line := range lines {
		told, e := trace.Read(line)
		for place := range line {
			for b := range 256 {
				other := line[:place] + string([]byte{byte(b)}) + line[place+1:]
				otherTold, otherErr := trace.Read(other)
				if other != line && e == api.OK && otherErr == api.OK && otherTold == told {
					t.Fatalf("%q and %q are read %+v", line, other, told)
				}
			}
		}
	}
}

// P27.3: so no two values have the same line: of two that differ in one field at most one is written, or each as
// something else.
func TestOneField(t *testing.T) {
	r := seed
	both := 0
	for range 100000 {
		a, c := r.told(), r.told()
		b := a
		switch r.below(7) {
		case 0:
			b.At = c.At
		case 1:
			b.Kind = c.Kind
		case 2:
			b.ID = c.ID
		case 3:
			b.Level = c.Level
		case 4:
			b.Seats = c.Seats
		case 5:
			b.Why = c.Why
		case 6:
			b.Digest = c.Digest
		}
		first, e1 := trace.Write(a)
		second, e2 := trace.Write(b)
		if e1 != api.OK || e2 != api.OK {
			continue
		}
		both++
		if (first == second) != (a == b) {
			t.Fatalf("%+v and %+v are written %q and %q", a, b, first, second)
		}
	}
	if both < 20000 {
		t.Errorf("%d were written", both)
	}
}

// P27.1: a written line is words with one blank between two, and one line of a trace.
func TestOneBlank(t *testing.T) {
	r := seed
	for range 50000 {
		told := r.told()
		line, e := trace.Write(told)
		if e != api.OK {
			continue
		}
		if w := words.Words(line); line != strings.Join(w, " ") || len(w) < 3 || len(w) > 5 || len(words.Lines(line)) != 1 {
			t.Fatalf("Write(%+v) = %q", told, line)
		}
	}
}
