package words_test

import (
	"fmt"
	"math"
	"regexp"
	"slices"
	"strconv"
	"strings"
	"testing"

	"usher/words"
)

// random are numbers, the same ones each time.
type random uint64

func (r *random) next() uint64 {
	x := uint64(*r)
	x ^= x << 13
	x ^= x >> 7
	x ^= x << 17
	*r = random(x)
	return x
}

func (r *random) below(n int) int { return int((r.next() >> 11) % uint64(n)) }

const seed = random(88172645463325252)

// text is n signs out of those given.
func (r *random) text(signs string, n int) string {
	b := make([]byte, n)
	for i := range b {
		b[i] = signs[r.below(len(signs))]
	}
	return string(b)
}

const (
	smallLetters = "abcdefghijklmnopqrstuvwxyz"
	greatLetters = "ABCDEFGHIJKLMNOPQRSTUVWXYZ"
	digits       = "0123456789"
	nameSigns    = smallLetters + digits + "-"
	wordSigns    = smallLetters + greatLetters + digits + "._:/@-"
)

// The forms of the chapter, written down in another way than the program does. \z is the end, behind a newline, too.
var (
	numberForm = regexp.MustCompile(`\A(?:0|[1-9][0-9]{0,8})\z`)
	hexForm    = regexp.MustCompile(`\A[0-9a-f]{16}\z`)
	nameForm   = regexp.MustCompile(`\A[a-z][a-z0-9-]{0,31}\z`)
	wordForm   = regexp.MustCompile(`\A[a-zA-Z0-9._:/@-]{1,64}\z`)
	listForm   = regexp.MustCompile(`\A[a-zA-Z0-9._:/@-]{1,64}(?:,[a-zA-Z0-9._:/@-]{1,64}){0,7}\z`)
)

func allBytes() string {
	b := make([]byte, 256)
	for i := range b {
		b[i] = byte(i)
	}
	return string(b)
}

// shortTexts goes through all texts of at most n of the signs.
func shortTexts(signs string, n int, see func(s string)) {
	see("")
	if n == 0 {
		return
	}
	for i := range len(signs) {
		sign := signs[i : i+1]
		shortTexts(signs, n-1, func(rest string) { see(sign + rest) })
	}
}

// wantLines goes byte by byte.
func wantLines(s string) []string {
	var lines []string
	var line []byte
	for _, b := range []byte(s) {
		if b != 10 {
			line = append(line, b)
			continue
		}
		lines = append(lines, string(line))
		line = nil
	}
	if len(line) > 0 {
		lines = append(lines, string(line))
	}
	return lines
}

// wantWords goes byte by byte.
func wantWords(line string) []string {
	var list []string
	var word []byte
	for _, b := range append([]byte(line), 32) {
		if b != 32 {
			word = append(word, b)
		} else if len(word) > 0 {
			list = append(list, string(word))
			word = nil
		}
	}
	return list
}

func wantNumber(w string, least, most int) (int, bool) {
	if !numberForm.MatchString(w) {
		return 0, false
	}
	n, err := strconv.Atoi(w)
	if err != nil || n < least || n > most {
		return 0, false
	}
	return n, true
}

func wantUnhex(w string) (uint64, bool) {
	if !hexForm.MatchString(w) {
		return 0, false
	}
	h, err := strconv.ParseUint(w, 16, 64)
	return h, err == nil
}

func wantName(w string) bool { return nameForm.MatchString(w) }

func wantWord(w string) bool { return w != "-" && wordForm.MatchString(w) }

func wantList(w string) ([]string, bool) {
	if w == "-" {
		return nil, true
	}
	if w == "*" {
		return []string{"*"}, true
	}
	if !listForm.MatchString(w) {
		return nil, false
	}
	seen := map[string]int{}
	var list []string
	for len(w) > 0 {
		word, rest, _ := strings.Cut(w, ",")
		seen[word]++
		if word == "-" || seen[word] > 1 {
			return nil, false
		}
		list = append(list, word)
		w = rest
	}
	return list, true
}

// wantJoin builds the only text that might be the list, and asks whether it is.
func wantJoin(l []string) string {
	text := "-"
	for i, w := range l {
		if i == 0 {
			text = w
		} else {
			text += "," + w
		}
	}
	if list, ok := wantList(text); !ok || !slices.Equal(list, l) {
		return ""
	}
	return text
}

func checkLines(t *testing.T, s string) {
	t.Helper()
	if got, want := words.Lines(s), wantLines(s); !slices.Equal(got, want) {
		t.Fatalf("Lines(%q) = %q, want %q", s, got, want)
	}
}

func checkWords(t *testing.T, line string) {
	t.Helper()
	if got, want := words.Words(line), wantWords(line); !slices.Equal(got, want) {
		t.Fatalf("Words(%q) = %q, want %q", line, got, want)
	}
}

func checkNumber(t *testing.T, w string, least, most int) {
	t.Helper()
	got, ok := words.Number(w, least, most)
	if want, is := wantNumber(w, least, most); got != want || ok != is {
		t.Fatalf("Number(%q, %d, %d) = %d, %t, want %d, %t", w, least, most, got, ok, want, is)
	}
}

func checkUnhex(t *testing.T, w string) {
	t.Helper()
	got, ok := words.Unhex(w)
	if want, is := wantUnhex(w); got != want || ok != is {
		t.Fatalf("Unhex(%q) = %d, %t, want %d, %t", w, got, ok, want, is)
	}
}

func checkForms(t *testing.T, w string) {
	t.Helper()
	if got, want := words.Name(w), wantName(w); got != want {
		t.Fatalf("Name(%q) = %t, want %t", w, got, want)
	}
	if got, want := words.Word(w), wantWord(w); got != want {
		t.Fatalf("Word(%q) = %t, want %t", w, got, want)
	}
}

func checkList(t *testing.T, w string) {
	t.Helper()
	got, ok := words.List(w)
	if want, is := wantList(w); ok != is || !slices.Equal(got, want) {
		t.Fatalf("List(%q) = %q, %t, want %q, %t", w, got, ok, want, is)
	}
}

func checkJoin(t *testing.T, l []string) {
	t.Helper()
	if got, want := words.Join(l), wantJoin(l); got != want {
		t.Fatalf("Join(%q) = %q, want %q", l, got, want)
	}
}

// checkAll holds every function that takes one text against what the chapter says of it.
func checkAll(t *testing.T, s string) {
	t.Helper()
	checkLines(t, s)
	checkWords(t, s)
	checkNumber(t, s, 0, 999999999)
	checkUnhex(t, s)
	checkForms(t, s)
	checkList(t, s)
	checkJoin(t, []string{s})
}

// numbered are n unlike words.
func numbered(n int) []string {
	l := make([]string, n)
	for i := range l {
		l[i] = "w" + strconv.Itoa(i)
	}
	return l
}

// P8.1
func TestLinesExamples(t *testing.T) {
	for _, c := range []struct {
		s    string
		want []string
	}{
		{"a\n\nb", []string{"a", "", "b"}},
		{"", nil},
		{"a", []string{"a"}},
		{"a\n", []string{"a"}},
		{"a\nb", []string{"a", "b"}},
		{"a\nb\n", []string{"a", "b"}},
		{"a\n\n", []string{"a", ""}},
		{"\na", []string{"", "a"}},
		{"\n", []string{""}},
		{"\n\n", []string{"", ""}},
		{"\n\n\n", []string{"", "", ""}},
		{" ", []string{" "}},
		{" \n ", []string{" ", " "}},
		{"a\r\nb\r", []string{"a\r", "b\r"}},
		{"a\vb\fc\x00d\te", []string{"a\vb\fc\x00d\te"}},
		{"a\u0085b\u2028c\u2029d", []string{"a\u0085b\u2028c\u2029d"}},
		{"\xe2\n\x80\xa8\n\xff", []string{"\xe2", "\x80\xa8", "\xff"}},
	} {
		if got := words.Lines(c.s); !slices.Equal(got, c.want) {
			t.Errorf("Lines(%q) = %q, want %q", c.s, got, c.want)
		}
	}
}

// P8.1
func TestWordsExamples(t *testing.T) {
	for _, c := range []struct {
		line string
		want []string
	}{
		{"  a  b ", []string{"a", "b"}},
		{"", nil},
		{" ", nil},
		{"     ", nil},
		{"a", []string{"a"}},
		{" a", []string{"a"}},
		{"a ", []string{"a"}},
		{"a b", []string{"a", "b"}},
		{"ab     cd", []string{"ab", "cd"}},
		{"a\tb", []string{"a\tb"}},
		{"\ta \n b\r", []string{"\ta", "\n", "b\r"}},
		{"a\u00a0b\u2003c\u3000d", []string{"a\u00a0b\u2003c\u3000d"}},
		{"\xe2 \x80 \xa8\xff", []string{"\xe2", "\x80", "\xa8\xff"}},
		{"\x00 \x00", []string{"\x00", "\x00"}},
		{"! *", []string{"!", "*"}},
	} {
		if got := words.Words(c.line); !slices.Equal(got, c.want) {
			t.Errorf("Words(%q) = %q, want %q", c.line, got, c.want)
		}
	}
}

// P8.1: a text of newlines only has as many lines, one of blanks only has no word, however long it is.
func TestLongPieces(t *testing.T) {
	for _, n := range []int{1, 2, 100, 100000} {
		lines := words.Lines(strings.Repeat("\n", n))
		if len(lines) != n || strings.Join(lines, "") != "" {
			t.Errorf("%d newlines: %d lines", n, len(lines))
		}
		if l := words.Words(strings.Repeat(" ", n)); len(l) != 0 {
			t.Errorf("%d blanks: %d words", n, len(l))
		}
		long := strings.Repeat("x", n)
		if l := words.Lines(long); !slices.Equal(l, []string{long}) {
			t.Errorf("a line of %d signs: %d lines", n, len(l))
		}
		if l := words.Words(long); !slices.Equal(l, []string{long}) {
			t.Errorf("a word of %d signs: %d words", n, len(l))
		}
	}
}

// P8.1: the lines, with their newlines again, are the text.
func TestLinesAreTheText(t *testing.T) {
	shortTexts("a \n\xff", 6, func(s string) {
		back := ""
		for _, line := range words.Lines(s) {
			if strings.Contains(line, "\n") {
				t.Fatalf("Lines(%q): a newline in %q", s, line)
			}
			back += line + "\n"
		}
		if back != s && back != s+"\n" || back != s && strings.HasSuffix(s, "\n") {
			t.Fatalf("Lines(%q) come back as %q", s, back)
		}
	})
}

// P8.2
func TestNumberExamples(t *testing.T) {
	const all = math.MaxInt
	for _, c := range []struct {
		w           string
		least, most int
		want        int
		ok          bool
	}{
		{"007", 0, 9, 0, false},
		{"0", 0, 9, 0, true},
		{"9", 0, 9, 9, true},
		{"10", 0, 9, 0, false},
		{"10", 0, 10, 10, true},
		{"10", 10, 10, 10, true},
		{"10", 11, 20, 0, false},
		{"9", 10, 20, 0, false},
		{"20", 10, 20, 20, true},
		{"21", 10, 20, 0, false},
		{"5", 6, 4, 0, false},
		{"5", 5, 4, 0, false},
		{"5", 6, 5, 0, false},
		{"0", 1, 0, 0, false},
		{"0", 1, 9, 0, false},
		{"0", 0, 0, 0, true},
		{"0", -5, 5, 0, true},
		{"0", -5, -1, 0, false},
		{"5", math.MaxInt, math.MinInt, 0, false},
		{"5", math.MinInt, math.MaxInt, 5, true},
		{"5", math.MinInt, math.MinInt, 0, false},
		{"5", math.MaxInt, math.MaxInt, 0, false},
		{"00", 0, all, 0, false},
		{"01", 0, all, 0, false},
		{"000000000", 0, all, 0, false},
		{"012345678", 0, all, 0, false},
		{"100000000", 0, all, 100000000, true},
		{"123456789", 0, all, 123456789, true},
		{"999999999", 0, all, 999999999, true},
		{"999999999", 0, 999999999, 999999999, true},
		{"999999999", 0, 999999998, 0, false},
		{"999999999", 999999999, all, 999999999, true},
		{"999999998", 999999999, all, 0, false},
		{"1000000000", 0, all, 0, false},
		{"0123456789", 0, all, 0, false},
		{"0000000000", 0, all, 0, false},
		{"9999999999", 0, all, 0, false},
		{"18446744073709551617", 0, all, 0, false},
		{"", 0, all, 0, false},
		{"+1", 0, all, 0, false},
		{"-1", -9, all, 0, false},
		{"-0", -9, all, 0, false},
		{"1a", 0, all, 0, false},
		{"a1", 0, all, 0, false},
		{" 1", 0, all, 0, false},
		{"1 ", 0, all, 0, false},
		{"1\n", 0, all, 0, false},
		{"1_0", 0, all, 0, false},
		{"0x1", 0, all, 0, false},
		{"1e1", 0, all, 0, false},
		{"1.0", 0, all, 0, false},
		{"/", 0, all, 0, false},
		{":", 0, all, 0, false},
		{"1/", 0, all, 0, false},
		{"1:", 0, all, 0, false},
		{"\x00", 0, all, 0, false},
		{"\xb1", 0, all, 0, false},
		{"\u0661", 0, all, 0, false},
		{"\uff11", 0, all, 0, false},
	} {
		if n, ok := words.Number(c.w, c.least, c.most); n != c.want || ok != c.ok {
			t.Errorf("Number(%q, %d, %d) = %d, %t, want %d, %t", c.w, c.least, c.most, n, ok, c.want, c.ok)
		}
	}
}

// P8.2: all bounds around all numbers that are small.
func TestNumberBounds(t *testing.T) {
	for n := range 13 {
		for least := -2; least < 15; least++ {
			for most := -2; most < 15; most++ {
				checkNumber(t, strconv.Itoa(n), least, most)
				checkNumber(t, "0"+strconv.Itoa(n), least, most)
			}
		}
	}
}

// P8.2: numbers of all lengths, with the sign at one place put in for any byte.
func TestNumberAnySignAnywhere(t *testing.T) {
	r := seed
	for length := 1; length <= 12; length++ {
		for range 4 {
			w := []byte(r.text("123456789", 1) + r.text(digits, length-1))
			checkNumber(t, string(w), 0, math.MaxInt)
			for place := range w {
				kept := w[place]
				for b := range 256 {
					w[place] = byte(b)
					checkNumber(t, string(w), 0, math.MaxInt)
				}
				w[place] = kept
			}
		}
	}
}

// P8.2
func TestDigitsExamples(t *testing.T) {
	for _, c := range []struct {
		n    int
		want string
	}{
		{0, "0"},
		{1, "1"},
		{9, "9"},
		{10, "10"},
		{120, "120"},
		{100000, "100000"},
		{999999999, "999999999"},
		{1000000000, "1000000000"},
		{math.MaxInt32, "2147483647"},
		{math.MaxInt64, "9223372036854775807"},
		{math.MaxInt64 - 1, "9223372036854775806"},
		{-1, "0"},
		{-3, "0"},
		{-10, "0"},
		{-999999999, "0"},
		{math.MinInt64, "0"},
		{math.MinInt64 + 1, "0"},
	} {
		if got := words.Digits(c.n); got != c.want {
			t.Errorf("Digits(%d) = %q, want %q", c.n, got, c.want)
		}
	}
}

// P8.2
func TestDigitsOfAllSizes(t *testing.T) {
	check := func(n int) {
		want := fmt.Sprint(n)
		if n < 0 {
			want = "0"
		}
		if got := words.Digits(n); got != want {
			t.Fatalf("Digits(%d) = %q, want %q", n, got, want)
		}
	}
	for n := -2000; n <= 20000; n++ {
		check(n)
	}
	for p := 1; p <= math.MaxInt/10; p *= 10 {
		for _, n := range []int{p - 1, p, p + 1, 10*p - 1, -p} {
			check(n)
		}
	}
	r := seed
	for range 10000 {
		check(int(r.next()) >> r.below(64))
	}
}

// P8.3
func TestHexExamples(t *testing.T) {
	for _, c := range []struct {
		h    uint64
		want string
	}{
		{0, "0000000000000000"},
		{1, "0000000000000001"},
		{9, "0000000000000009"},
		{10, "000000000000000a"},
		{15, "000000000000000f"},
		{16, "0000000000000010"},
		{255, "00000000000000ff"},
		{0x0123456789abcdef, "0123456789abcdef"},
		{0xfedcba9876543210, "fedcba9876543210"},
		{1 << 60, "1000000000000000"},
		{1<<60 - 1, "0fffffffffffffff"},
		{1 << 63, "8000000000000000"},
		{1<<63 - 1, "7fffffffffffffff"},
		{math.MaxUint64 - 1, "fffffffffffffffe"},
		{math.MaxUint64, "ffffffffffffffff"},
	} {
		if got := words.Hex(c.h); got != c.want {
			t.Errorf("Hex(%d) = %q, want %q", c.h, got, c.want)
		}
		if h, ok := words.Unhex(c.want); h != c.h || !ok {
			t.Errorf("Unhex(%q) = %d, %t, want %d", c.want, h, ok, c.h)
		}
	}
}

// P8.3
func TestUnhexRefusals(t *testing.T) {
	for _, w := range []string{
		"",
		"0",
		"ff",
		"000000000000000",
		"00000000000000ff0",
		"00000000000000000",
		"fffffffffffffff",
		"fffffffffffffffff",
		"00000000000000ff00000000000000ff",
		"00000000000000FF",
		"00000000000000fF",
		"F000000000000000",
		"A000000000000000",
		"000000000000000g",
		"000000000000000`",
		"000000000000000/",
		"000000000000000:",
		"000000000000000@",
		"0x00000000000000",
		"+000000000000001",
		"-000000000000001",
		"0000_0000_0000_1",
		" 00000000000000f",
		"00000000000000f ",
		"00000000000000f\n",
		"00000000000000\u00e9",
		"0000000000000\uff11",
		"\x00000000000000000",
		"\xff000000000000000",
	} {
		if h, ok := words.Unhex(w); h != 0 || ok {
			t.Errorf("Unhex(%q) = %d, %t", w, h, ok)
		}
	}
}

// P8.3: each four bits by themselves, and numbers of all sizes, there and back.
func TestHexThereAndBack(t *testing.T) {
	check := func(h uint64) {
		w := words.Hex(h)
		if want := fmt.Sprintf("%016x", h); w != want {
			t.Fatalf("Hex(%d) = %q, want %q", h, w, want)
		}
		if back, ok := words.Unhex(w); back != h || !ok {
			t.Fatalf("Unhex(%q) = %d, %t, want %d", w, back, ok, h)
		}
	}
	for shift := 0; shift < 64; shift += 4 {
		for v := range uint64(16) {
			check(v << shift)
			check(^(v << shift))
		}
	}
	r := seed
	for range 20000 {
		check(r.next() >> r.below(64))
	}
}

// P8.3: any byte at any place, and all lengths.
func TestUnhexAnySignAnywhere(t *testing.T) {
	r := seed
	for length := range 40 {
		checkUnhex(t, r.text("0123456789abcdef", length))
	}
	for range 8 {
		w := []byte(r.text("0123456789abcdef", 16))
		for place := range w {
			kept := w[place]
			for b := range 256 {
				w[place] = byte(b)
				checkUnhex(t, string(w))
			}
			w[place] = kept
		}
	}
}

// P8.4
func TestNameExamples(t *testing.T) {
	long := strings.Repeat("n", 32)
	for _, w := range []string{"a", "z", "a-1", "a-", "a--", "z9", "catch-all", long, "a" + strings.Repeat("-", 31), "a" + strings.Repeat("9", 31)} {
		if !words.Name(w) {
			t.Errorf("Name(%q): false", w)
		}
	}
	for _, w := range []string{
		"", "-", "--", "-a", "1", "1a", "0", "9z", "A", "Ab", "aB", "a_b", "a.b", "a b", " a", "a ", "a\n", "a,b", "*", "a*",
		"a:", "a/", "a@", "`", "{", "a`", "a{", "@", "[", "a\x00", "\x00", "\xe1", "a\xff", "\u00e4", "a\u00e4",
		long + "n", "a" + strings.Repeat("-", 32), strings.Repeat("n", 64), strings.Repeat("n", 1000),
	} {
		if words.Name(w) {
			t.Errorf("Name(%q): true", w)
		}
	}
}

// P8.4
func TestWordExamples(t *testing.T) {
	long := strings.Repeat("w", 64)
	for _, w := range []string{
		"a", "z", "A", "Z", "0", "9", ".", "_", ":", "/", "@", "--", "-a", "a-", "---", "Ab", "1a", "system:node/a@b_c.d-e",
		long, strings.Repeat("-", 64), strings.Repeat("@", 64), strings.Repeat("n", 33), strings.Repeat("9", 63),
	} {
		if !words.Word(w) {
			t.Errorf("Word(%q): false", w)
		}
	}
	for _, w := range []string{
		"", "-\n", " ", "a b", " a", "a ", "a\n", "\n", "a,b", ",", "*", "a*", "**", "a+", "a\t", "a;", "a?", "[", "a`", "{", "a\\", "a^",
		"a\x00", "\x00", "\xe1", "a\xff", "\u00e4", "a\u00e4", "\u212a", "\uff0d",
		long + "w", strings.Repeat("-", 65), strings.Repeat("w", 1000),
	} {
		if words.Word(w) {
			t.Errorf("Word(%q): true", w)
		}
	}
}

// P8.4: each byte alone, ahead of letters, among them and behind them.
func TestFormsOfEachSign(t *testing.T) {
	for b := range 256 {
		sign := string([]byte{byte(b)})
		inName := strings.Contains(nameSigns, sign)
		inWord := strings.Contains(wordSigns, sign)
		first := strings.Contains(smallLetters, sign)
		if words.Name(sign) != first || words.Name(sign+"ab") != first {
			t.Errorf("Name of %q first", sign)
		}
		if words.Name("a"+sign+"b") != inName || words.Name("ab"+sign) != inName {
			t.Errorf("Name of %q behind a letter", sign)
		}
		if words.Word(sign) != (inWord && sign != "-") {
			t.Errorf("Word of %q alone", sign)
		}
		if words.Word(sign+"ab") != inWord || words.Word("a"+sign+"b") != inWord || words.Word("ab"+sign) != inWord {
			t.Errorf("Word of %q among letters", sign)
		}
		if _, ok := words.List("a," + sign); ok != (inWord && sign != "-" && sign != "a") {
			t.Errorf("List of a and %q", sign)
		}
	}
}

// P8.4: names and words of all lengths, and with any byte at any place.
func TestFormsAnySignAnywhere(t *testing.T) {
	r := seed
	for length := range 70 {
		for range 4 {
			name := []byte(r.text(nameSigns, length))
			word := []byte(r.text(wordSigns, length))
			checkForms(t, string(name))
			checkForms(t, string(word))
			checkForms(t, "a"+string(name))
			if length > 0 {
				place, b := r.below(length), byte(r.next())
				name[place], word[place] = b, b
				checkForms(t, string(name))
				checkForms(t, "a"+string(name))
				checkForms(t, string(word))
			}
		}
	}
}

// P8.4
func TestListExamples(t *testing.T) {
	long := strings.Repeat("w", 64)
	for _, c := range []struct {
		w    string
		want []string
	}{
		{"-", nil},
		{"*", []string{"*"}},
		{"a", []string{"a"}},
		{"a,b", []string{"a", "b"}},
		{"b,a", []string{"b", "a"}},
		{"a,A,aa", []string{"a", "A", "aa"}},
		{"--,-a,a-", []string{"--", "-a", "a-"}},
		{"system:x,get/@_.", []string{"system:x", "get/@_."}},
		{"a,b,c,d,e,f,g,h", []string{"a", "b", "c", "d", "e", "f", "g", "h"}},
		{"h,g,f,e,d,c,b", []string{"h", "g", "f", "e", "d", "c", "b"}},
		{long + ",w", []string{long, "w"}},
	} {
		if l, ok := words.List(c.w); !ok || !slices.Equal(l, c.want) {
			t.Errorf("List(%q) = %q, %t, want %q", c.w, l, ok, c.want)
		}
		if w := words.Join(c.want); w != c.w {
			t.Errorf("Join(%q) = %q, want %q", c.want, w, c.w)
		}
	}
}

// P8.4
func TestListRefusals(t *testing.T) {
	long := strings.Repeat("w", 65)
	for _, w := range []string{
		"", ",", ",,", "a,", ",a", "a,,b", "a,b,", ",a,b", "a,a", "a,b,a", "b,a,a", "a,b,c,d,e,f,g,a", "a,b,c,d,e,f,g,g",
		"a,*", "*,a", "*,*", "**", "a,*,b", "*,", ",*", "-,a", "a,-", "-,-", "-,", ",-", "a,-,b",
		"a b", "a, b", " a", "a ", " ", "- ", " *", "a\n", "-\n", "*\n", "a\nb", "a;b", "a\x00", "\x00", "\xff", "a,\xff", "a,\u00e4",
		"a,b,c,d,e,f,g,h,i", "a,b,c,d,e,f,g,h,", ",a,b,c,d,e,f,g,h", "a,b,c,d,e,f,g,h,a", "a,b,c,d,e,f,g,h,*", "a,b,c,d,e,f,g,h,i,j,k",
		long, long + ",a", "a," + long, strings.Repeat(",", 1000), strings.Repeat("a,", 1000),
	} {
		if l, ok := words.List(w); ok || len(l) != 0 {
			t.Errorf("List(%q) = %q, %t", w, l, ok)
		}
	}
}

// P8.4
func TestJoinEdges(t *testing.T) {
	long := strings.Repeat("w", 64)
	for _, c := range []struct {
		l    []string
		want string
	}{
		{nil, "-"},
		{[]string{}, "-"},
		{[]string{"*"}, "*"},
		{[]string{"a"}, "a"},
		{[]string{"a", "b"}, "a,b"},
		{[]string{"b", "a"}, "b,a"},
		{numbered(8), "w0,w1,w2,w3,w4,w5,w6,w7"},
		{numbered(9), ""},
		{numbered(10), ""},
		{numbered(1000), ""},
		{[]string{long}, long},
		{[]string{long + "w"}, ""},
		{[]string{"a", long + "w"}, ""},
		{[]string{""}, ""},
		{[]string{"", ""}, ""},
		{[]string{"", "a"}, ""},
		{[]string{"a", ""}, ""},
		{[]string{"-"}, ""},
		{[]string{"a", "-"}, ""},
		{[]string{"-", "a"}, ""},
		{[]string{"a", "*"}, ""},
		{[]string{"*", "a"}, ""},
		{[]string{"*", "*"}, ""},
		{[]string{"a", "a"}, ""},
		{[]string{"a", "b", "a"}, ""},
		{[]string{"a", "b", "b"}, ""},
		{[]string{"a,b"}, ""},
		{[]string{"a,b", "c"}, ""},
		{[]string{"a,"}, ""},
		{[]string{","}, ""},
		{[]string{"a b"}, ""},
		{[]string{"a\n"}, ""},
		{[]string{"\xff"}, ""},
		{[]string{"\x00"}, ""},
	} {
		if got := words.Join(c.l); got != c.want {
			t.Errorf("Join(%q) = %q, want %q", c.l, got, c.want)
		}
	}
}

// P8.1 to P8.4: all short texts of the signs that matter, and all of two bytes.
func TestAllShortTexts(t *testing.T) {
	shortTexts("a0-,* \n", 6, func(s string) { checkAll(t, s) })
	shortTexts("aB_,", 7, func(s string) { checkAll(t, s) })
	shortTexts(allBytes(), 2, func(s string) { checkAll(t, s) })
}

// P8.1 to P8.4: long texts of any bytes, and of the signs that matter.
func TestMixedTexts(t *testing.T) {
	r := seed
	every := allBytes()
	for range 20000 {
		length := r.below(90)
		checkAll(t, r.text(every, length))
		checkAll(t, r.text(nameSigns+" \n", length))
		checkAll(t, r.text(wordSigns+",,,,,,,,", length))
		checkAll(t, r.text(digits, r.below(20)))
	}
}

// P8.4: all short lists of texts that are words, that are none, and that are there twice.
func TestAllShortLists(t *testing.T) {
	pieces := []string{"a", "b", "-", "*", "", "a,b", "--", " "}
	var walk func(l []string)
	walk = func(l []string) {
		checkJoin(t, l)
		checkList(t, strings.Join(l, ","))
		if len(l) == 4 {
			return
		}
		for _, p := range pieces {
			walk(append(slices.Clone(l), p))
		}
	}
	walk(nil)
}

// P8.4: lists of up to ten words, with one at some place that may not be there.
func TestListFaultAnywhere(t *testing.T) {
	for n := 1; n <= 10; n++ {
		good := numbered(n)
		checkJoin(t, good)
		checkList(t, strings.Join(good, ","))
		for place := range n {
			for _, bad := range []string{"", "-", "*", "w0", "w" + strconv.Itoa(n-1), "x,y", "\xff", strings.Repeat("w", 65), strings.Repeat("w", 64)} {
				l := slices.Clone(good)
				l[place] = bad
				checkJoin(t, l)
				checkList(t, strings.Join(l, ","))
			}
		}
	}
}

// P8.5: words with blanks between them are read as they are.
func TestBlanksBetweenWords(t *testing.T) {
	r := seed
	every := strings.ReplaceAll(allBytes(), " ", "")
	for range 5000 {
		var list []string
		line := strings.Repeat(" ", r.below(3))
		for i := range r.below(8) {
			if i > 0 {
				line += strings.Repeat(" ", 1+r.below(3))
			}
			w := r.text(every, 1+r.below(9))
			list = append(list, w)
			line += w
		}
		line += strings.Repeat(" ", r.below(3))
		if got := words.Words(line); !slices.Equal(got, list) {
			t.Fatalf("Words(%q) = %q, want %q", line, got, list)
		}
		if got := words.Words(strings.Join(list, " ")); !slices.Equal(got, list) {
			t.Fatalf("Words of %q with one blank = %q", list, got)
		}
	}
}

// P8.5: Number of Digits(n) is n.
func TestNumberOfDigits(t *testing.T) {
	check := func(n int) {
		if got, ok := words.Number(words.Digits(n), 0, 999999999); got != n || !ok {
			t.Fatalf("Number(Digits(%d)) = %d, %t", n, got, ok)
		}
		if got, ok := words.Number(words.Digits(n), n, n); got != n || !ok {
			t.Fatalf("Number(Digits(%d)) from there to there = %d, %t", n, got, ok)
		}
	}
	for n := range 100000 {
		check(n)
		check(999999999 - n)
	}
	for p := 1; p < 999999999; p *= 10 {
		check(p - 1)
		check(p)
		check(p + 1)
	}
	r := seed
	for range 100000 {
		check(r.below(1000000000))
	}
	if n, ok := words.Number(words.Digits(1000000000), 0, math.MaxInt); n != 0 || ok {
		t.Errorf("Number(Digits(1000000000)) = %d, %t", n, ok)
	}
}

// P8.5: List of Join is the same words, and Join of List the same text.
func TestListOfJoin(t *testing.T) {
	r := seed
	for range 20000 {
		var list []string
		for range r.below(9) {
			w := r.text(wordSigns, 1+r.below(4))
			if r.below(50) == 0 {
				w = r.text(wordSigns, 64)
			}
			if w != "-" && !slices.Contains(list, w) {
				list = append(list, w)
			}
		}
		text := words.Join(list)
		back, ok := words.List(text)
		if !ok || !slices.Equal(back, list) {
			t.Fatalf("List(Join(%q)) = %q, %t", list, back, ok)
		}
		if again := words.Join(back); again != text || text == "" {
			t.Fatalf("Join(List(%q)) = %q", text, again)
		}
	}
	if back, ok := words.List(words.Join([]string{"*"})); !ok || !slices.Equal(back, []string{"*"}) {
		t.Errorf("List(Join(*)) = %q, %t", back, ok)
	}
}

// P8.4: Join changes neither its list nor the spare room behind it, whatever it answers.
func TestJoinLeavesItsList(t *testing.T) {
	for _, l := range [][]string{{}, {"*"}, {"b", "a"}, {"a", "a"}, {"a", "*", "-"}, numbered(8), numbered(9)} {
		whole := append(slices.Clone(l), "spare", "room", "behind")
		kept := slices.Clone(whole)
		words.Join(whole[:len(l)])
		if !slices.Equal(whole, kept) {
			t.Errorf("Join of %q left %q", kept, whole)
		}
	}
}

// P8.1, P8.4: what is written into an answer, or into its spare room, shows in no other one.
func TestAnswersApart(t *testing.T) {
	spoil := func(l []string) {
		l = l[:cap(l)]
		for i := range l {
			l[i] = "spoilt"
		}
	}
	for range 2 {
		for _, s := range []string{"", "\n", "a", "a\n", "a\nb\n\nc"} {
			checkLines(t, s)
			spoil(words.Lines(s))
		}
		for _, s := range []string{"", " ", "a", "a b  c "} {
			checkWords(t, s)
			spoil(words.Words(s))
		}
		for _, s := range []string{"-", "*", "a", "a,b,c", "a,b,c,d,e,f,g,h", "a,a", ""} {
			checkList(t, s)
			l, _ := words.List(s)
			spoil(l)
		}
	}
}
