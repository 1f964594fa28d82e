package split

import (
	"slices"
	"strings"
	"testing"
)

// words: all texts of up to n of these bytes.
func words(bytes string, n int) []string {
	all := []string{""}
	for from := 0; n > 0; n-- {
		to := len(all)
		for _, w := range all[from:to] {
			for i := range len(bytes) {
				all = append(all, w+bytes[i:i+1])
			}
		}
		from = to
	}
	return all
}

// lists: all lists of up to n of these texts.
func lists(texts []string, n int) [][]string {
	all := [][]string{nil}
	for from := 0; n > 0; n-- {
		to := len(all)
		for _, l := range all[from:to] {
			for _, s := range texts {
				all = append(all, append(slices.Clone(l), s))
			}
		}
		from = to
	}
	return all
}

// byHand splits s the plain way, a byte at a time.
func byHand(s string) []string {
	var l []string
	open := false
	for i := range len(s) {
		if !open {
			l = append(l, "")
		}
		l[len(l)-1] += s[i : i+1]
		open = s[i] != 10
	}
	return l
}

func TestLines(t *testing.T) { // P10.1
	for _, c := range []struct {
		what, s string
		want    []string
	}{
		{"the example", "a\nb", []string{"a\n", "b"}},
		{"nothing", "", nil},
		{"one with its end", "a\n", []string{"a\n"}},
		{"one without", "a", []string{"a"}},
		{"an end alone", "\n", []string{"\n"}},
		{"ends in a row", "\n\n\n", []string{"\n", "\n", "\n"}},
		{"an end ahead", "\na", []string{"\n", "a"}},
		{"ends within", "a\n\n\nb\n", []string{"a\n", "\n", "\n", "b\n"}},
		{"other bytes that are no ends", "a\rb\vc\fd\x00e", []string{"a\rb\vc\fd\x00e"}},
		{"13 ahead of 10 and behind it", "a\r\n\rb", []string{"a\r\n", "\rb"}},
		{"runes that are no ends", "a\u0085b\u2028c\u2029\u010a", []string{"a\u0085b\u2028c\u2029\u010a"}},
		{"bytes that are no runes", "\xff\n\xe2\x80\n\xc2", []string{"\xff\n", "\xe2\x80\n", "\xc2"}},
		{"blanks stay", "  a \n \t", []string{"  a \n", " \t"}},
	} {
		if got := Lines(c.s); !slices.Equal(got, c.want) {
			t.Errorf("P10.1: %s: Lines is %q, want %q", c.what, got, c.want)
		}
	}
}

func TestLinesHaveNoLimit(t *testing.T) { // P10.1
	long := strings.Repeat("x", 100000)
	many := strings.Repeat("\n", 100000)
	if got := Lines(long + "\n" + long); !slices.Equal(got, []string{long + "\n", long}) {
		t.Errorf("P10.1: two long lines are %d", len(got))
	}
	got := Lines(many)
	if len(got) != 100000 || slices.ContainsFunc(got, func(s string) bool { return s != "\n" }) {
		t.Errorf("P10.1: 100000 ends are %d lines", len(got))
	}
	if !Is(got) || Join(got) != many {
		t.Error("P10.2: 100000 lines don't come back")
	}
}

func TestJoin(t *testing.T) { // P10.1
	for _, c := range []struct {
		what string
		l    []string
		want string
	}{
		{"none", nil, ""},
		{"an empty list", []string{}, ""},
		{"empty texts", []string{"", "", ""}, ""},
		{"one", []string{"a"}, "a"},
		{"lines", []string{"a\n", "b"}, "a\nb"},
		{"texts that are no lines", []string{"a", "", "b\nc", "a"}, "ab\nca"},
		{"the other way round", []string{"b", "a\n"}, "ba\n"},
		{"bytes that are no runes", []string{"\xe2", "\x80", "\xa8\xff\x00"}, "\xe2\x80\xa8\xff\x00"},
	} {
		was := slices.Clone(c.l)
		if got := Join(c.l); got != c.want {
			t.Errorf("P10.1: %s: Join is %q, want %q", c.what, got, c.want)
		}
		if !slices.Equal(c.l, was) {
			t.Errorf("P10.1: %s: the list is changed to %q", c.what, c.l)
		}
	}
}

func TestIs(t *testing.T) { // P10.1
	for _, c := range []struct {
		what string
		l    []string
		want bool
	}{
		{"none", nil, true},
		{"an empty list", []string{}, true},
		{"one without its end", []string{"a"}, true},
		{"one with it", []string{"a\n"}, true},
		{"an end alone", []string{"\n"}, true},
		{"the last one without", []string{"a\n", "\n", "b"}, true},
		{"all with their ends", []string{"a\n", "\n", "b\n"}, true},
		{"another byte that is no end", []string{"a\r", "b"}, false},
		{"an empty one alone", []string{""}, false},
		{"an empty one ahead", []string{"", "a\n"}, false},
		{"an empty one within", []string{"a\n", "", "b"}, false},
		{"an empty one behind", []string{"a\n", ""}, false},
		{"an end that is missing ahead", []string{"a", "b\n"}, false},
		{"an end that is missing within", []string{"a\n", "b", "c\n"}, false},
		{"an end within", []string{"a\nb\n"}, false},
		{"an end within, none behind", []string{"a\nb"}, false},
		{"an end ahead of one", []string{"\na"}, false},
		{"two ends", []string{"\n\n"}, false},
		{"two ends in one of the first", []string{"a\n\n", "b"}, false},
		{"an end within the last one", []string{"a\n", "b\nc"}, false},
		{"10 within what isn't a rune", []string{"\xe2\n\x80"}, false},
	} {
		was := slices.Clone(c.l)
		if got := Is(c.l); got != c.want {
			t.Errorf("P10.1: %s: Is is %v", c.what, got)
		}
		if !slices.Equal(c.l, was) {
			t.Errorf("P10.1: %s: the list is changed to %q", c.what, c.l)
		}
	}
}

func TestFits(t *testing.T) { // P10.1
	x := func(n int) string { return strings.Repeat("x", n) }
	full := x(59) + "\n"
	for _, c := range []struct {
		what, s string
		want    bool
	}{
		{"nothing", "", true},
		{"one", "a", true},
		{"40 of 60 bytes", strings.Repeat(full, 40), true},
		{"40, the last one without its end", strings.Repeat(full, 39) + x(60), true},
		{"41, the last one without its end", strings.Repeat(full, 40) + "x", false},
		{"41 of 60 bytes", strings.Repeat(full, 41), false},
		{"40 ends", strings.Repeat("\n", 40), true},
		{"41 ends", strings.Repeat("\n", 41), false},
		{"60 bytes without an end", x(60), true},
		{"61 bytes without an end", x(61), false},
		{"60 bytes with the end", full, true},
		{"60 bytes, and the end", x(60) + "\n", false},
		{"too long a line ahead", x(60) + "\n" + "a\n", false},
		{"too long a line within", "a\n" + x(60) + "\n" + "a", false},
		{"too long a line behind", "a\n" + x(61), false},
		{"too long a 40th line", strings.Repeat("\n", 39) + x(61), false},
		{"30 runes of two bytes", strings.Repeat("\u00e4", 30), true},
		{"31 runes of two bytes", strings.Repeat("\u00e4", 31), false},
		{"other bytes that are no ends", strings.Repeat("\r\v", 30), true},
		{"too many of them", strings.Repeat("\r\v", 31), false},
		{"one much too long", x(1 << 20), false},
		{"many too many", strings.Repeat("\n", 1<<20), false},
	} {
		if got := Fits(c.s); got != c.want {
			t.Errorf("P10.1: %s: Fits is %v", c.what, got)
		}
	}
}

// TestFitsByLines holds Fits against the lines themselves, around both limits.
func TestFitsByLines(t *testing.T) { // P10.1
	for count := range 44 {
		for long := range 64 {
			for _, last := range []string{"", "\n"} {
				s := strings.Repeat("\n", count) + strings.Repeat("x", long) + last
				want := true
				l := byHand(s)
				for _, line := range l {
					want = want && len(line) <= 60
				}
				want = want && len(l) <= 40
				if Fits(s) != want {
					t.Errorf("P10.1: %d ends, %d bytes and %q: Fits is %v", count, long, last, !want)
				}
			}
		}
	}
}

// TestSplitIsJoined goes through all short texts.
func TestSplitIsJoined(t *testing.T) { // P10.1, P10.2
	for _, s := range words("a\n\xff", 7) {
		l := Lines(s)
		if want := byHand(s); !slices.Equal(l, want) {
			t.Errorf("P10.1: Lines(%q) is %q, want %q", s, l, want)
		}
		if Join(l) != s {
			t.Errorf("P10.2: Lines(%q) is joined to %q", s, Join(l))
		}
		if !Is(l) {
			t.Errorf("P10.1: Lines(%q) is no row of lines: %q", s, l)
		}
	}
}

// TestJoinedIsSplit goes through all short lists: just those that are lines come back.
func TestJoinedIsSplit(t *testing.T) { // P10.1, P10.2
	for _, l := range lists(words("a\n", 3), 3) {
		s := strings.Builder{}
		for _, piece := range l {
			s.WriteString(piece)
		}
		if Join(l) != s.String() {
			t.Errorf("P10.1: Join(%q) is %q", l, Join(l))
		}
		if want := slices.Equal(byHand(s.String()), l); Is(l) != want {
			t.Errorf("P10.1: Is(%q) is %v", l, !want)
		}
		if Is(l) && !slices.Equal(Lines(Join(l)), l) {
			t.Errorf("P10.2: joined, %q is split into %q", l, Lines(Join(l)))
		}
	}
}

func TestAnswersAreNewMemory(t *testing.T) { // P10.1
	s := "a\nb\nc\nd\ne"
	want := []string{"a\n", "b\n", "c\n", "d\n", "e"}
	earlier, spoilt := Lines(s), Lines(s)
	later := Lines(s)
	for i := range spoilt[:cap(spoilt)] {
		spoilt[:cap(spoilt)][i] = "spoilt"
	}
	for _, l := range [][]string{earlier, later, Lines(s)} {
		if !slices.Equal(l, want) {
			t.Errorf("P10.1: an answer is touched by another one: %q", l)
		}
	}
}

// TestSpareRoomIsLeft hands in the front of a list, with more behind it.
func TestSpareRoomIsLeft(t *testing.T) { // P10.1
	room := []string{"a\n", "b\n", "c", "d"}
	front := room[:2]
	if Join(front) != "a\nb\n" || !Is(front) {
		t.Errorf("P10.1: Join is %q, Is %v", Join(front), Is(front))
	}
	if !slices.Equal(room, []string{"a\n", "b\n", "c", "d"}) {
		t.Errorf("P10.1: what was handed in is changed: %q", room)
	}
}

func TestPiecesAreLeftAndGoneThroughAgain(t *testing.T) {
	p := pieces("a\n\nb")
	var seen []string
	for a := range p {
		if a == "b" {
			break
		}
		for b := range p {
			seen = append(seen, a+b)
			if b == "\n" {
				break
			}
		}
	}
	if want := []string{"a\na\n", "a\n\n", "\na\n", "\n\n"}; !slices.Equal(seen, want) {
		t.Errorf("nested: %q", seen)
	}
	if got := slices.Collect(p); !slices.Equal(got, []string{"a\n", "\n", "b"}) {
		t.Errorf("again: %q", got)
	}
}
