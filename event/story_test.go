package event_test

import (
	"strings"
	"testing"

	"usher/api"
	"usher/event"
	"usher/words"
)

// P26.3: Read of Write(e) is e, whatever e is, if it may be written.
func TestReadOfWrite(t *testing.T) {
	r := seed
	written := 0
	for range 60000 {
		e := r.event()
		line, err := event.Write(e)
		if err != api.OK {
			continue
		}
		written++
		if back, err := event.Read(line); err != api.OK || !equal(back, e) {
			t.Fatalf("%+v is written %q, and read %+v, %v", e, line, back, err)
		}
		// Blanks ahead of a line, and others behind one that is no load, do not matter.
		more := "   " + line
		if e.Kind != api.Load {
			more = " " + strings.ReplaceAll(line, " ", "   ") + "  "
		}
		if back, err := event.Read(more); err != api.OK || !equal(back, e) {
			t.Fatalf("%q is read %+v, %v; want %+v", more, back, err, e)
		}
	}
	if written < 30000 {
		t.Errorf("%d were written", written)
	}
}

// P26.3: Write of what Read makes is a line that Read makes the same event of, and that is written as it is.
func TestWriteOfRead(t *testing.T) {
	r := seed
	read := 0
	for range 60000 {
		line := r.line()
		e, err := event.Read(line)
		if err != api.OK {
			continue
		}
		read++
		again, err := event.Write(e)
		if err != api.OK {
			t.Fatalf("%q is read %+v, which is written %q, %v", line, e, again, err)
		}
		back, err := event.Read(again)
		if err != api.OK || !equal(back, e) {
			t.Fatalf("%q is written %q, and read %+v, %v; want %+v", line, again, back, err, e)
		}
		if third, err := event.Write(back); err != api.OK || third != again {
			t.Fatalf("%q is written %q, and then %q, %v", line, again, third, err)
		}
	}
	if read < 20000 {
		t.Errorf("%d were read", read)
	}
}

// P26.2: Write refuses just those events that Read makes of no line: of what is drawn and refused, no line is read as
// it that the event's own fields may stand in.
func TestWhatIsRefusedIsReadNowhere(t *testing.T) {
	r := seed
	refused := 0
	for range 60000 {
		e := r.event()
		if _, err := event.Write(e); err == api.OK {
			continue
		}
		refused++
		for _, line := range likely(e) {
			if got, err := event.Read(line); err == api.OK && equal(got, e) {
				t.Fatalf("%q is read %+v, which is not written", line, got)
			}
		}
	}
	if refused < 5000 {
		t.Errorf("%d were refused", refused)
	}
}

// likely lines of an event.
func likely(e api.Event) []string {
	q := e.Request
	id, n := words.Digits(e.ID), words.Digits(e.N)
	lines := []string{"", "done " + id, "drop " + id, "tick " + n, "load", "load " + e.Text, "load " + strings.ReplaceAll(e.Text, "\n", ";")}
	for _, list := range []string{"-", "*", strings.Join(q.Groups, ","), words.Join(q.Groups)} {
		for _, space := range []string{"-", q.Space} {
			lines = append(lines, strings.Join([]string{"new", id, q.User, list, q.Verb, q.Resource, space, words.Digits(q.Objects)}, " "))
		}
	}
	return lines
}

// P26.2: a written line is words with one blank between two, but for what is a load's text.
func TestOneBlank(t *testing.T) {
	r := seed
	for range 20000 {
		e := r.event()
		line, err := event.Write(e)
		if err != api.OK || e.Kind == api.Load {
			continue
		}
		if line != strings.Join(words.Words(line), " ") || strings.Contains(line, "\n") {
			t.Fatalf("Write(%+v) = %q", e, line)
		}
	}
}

// P26.2: a line that is written is one line of a script: no newline stands in it.
func TestNoNewline(t *testing.T) {
	r := seed
	for range 20000 {
		e := load(r.text())
		line, err := event.Write(e)
		if err == api.OK && (strings.Contains(line, "\n") || strings.Count(line, ";") != strings.Count(e.Text, "\n")) {
			t.Fatalf("Write(%+v) = %q", e, line)
		}
	}
}
