package match

import (
	"math"
	"math/rand"
	"slices"
	"strconv"
	"strings"
	"testing"

	"cento/api"
)

// texts: of each letter a text.
func texts(letters string) []string {
	if letters == "" {
		return nil
	}
	return strings.Split(letters, "")
}

// pairs: 0, 1, 2, 3 is 0 1, 2 3.
func pairs(numbers ...int) []api.Pair {
	var l []api.Pair
	for i := 0; i < len(numbers); i += 2 {
		l = append(l, api.Pair{A: numbers[i], B: numbers[i+1]})
	}
	return l
}

// step: n pairs in a row, from a b on.
func step(a, b, n int) []api.Pair {
	var l []api.Pair
	for i := range n {
		l = append(l, api.Pair{A: a + i, B: b + i})
	}
	return l
}

// unlike: n texts, none like another one.
func unlike(n int) []string {
	l := make([]string, n)
	for i := range l {
		l[i] = strconv.Itoa(i)
	}
	return l
}

// alike: n texts, all the same.
func alike(n int, text string) []string { return slices.Repeat([]string{text}, n) }

// lists: all lists of up to n of these.
func lists[T any](things []T, n int) [][]T {
	all := [][]T{nil}
	for from := 0; n > 0; n-- {
		to := len(all)
		for _, l := range all[from:to] {
			for _, x := range things {
				all = append(all, append(slices.Clone(l), x))
			}
		}
		from = to
	}
	return all
}

func expect(t *testing.T, what string, a, b []string, want []api.Pair) {
	t.Helper()
	if got := Longest(a, b); !slices.Equal(got, want) {
		t.Errorf("P11.1: %s: Longest is %v, want %v", what, got, want)
	}
	if n, m := Length(a, b), Length(b, a); n != len(want) || m != len(want) {
		t.Errorf("P11.1: %s: Length is %d, the other way round %d, want %d", what, n, m, len(want))
	}
	if !Is(a, b, want) {
		t.Errorf("P11.1: %s: %v is no matching", what, want)
	}
}

func TestLongest(t *testing.T) { // P11.1
	for _, c := range []struct {
		what, a, b string
		want       []api.Pair
	}{
		{"the example", "abc", "bcd", pairs(1, 0, 2, 1)},
		{"of nothing", "", "", nil},
		{"a is nothing", "", "ab", nil},
		{"b is nothing", "ab", "", nil},
		{"nothing in common", "ab", "cd", nil},
		{"one, the same", "a", "a", pairs(0, 0)},
		{"one, another one", "a", "b", nil},
		{"all", "abc", "abc", pairs(0, 0, 1, 1, 2, 2)},
		{"one of both ways round, by the least of a", "ab", "ba", pairs(0, 1)},
		{"the last of three ways round", "abc", "cba", pairs(0, 2)},
		{"the least of a", "aa", "a", pairs(0, 0)},
		{"the least of b", "a", "aa", pairs(0, 0)},
		{"the least of both", "aaa", "aa", pairs(0, 0, 1, 1)},
		{"the first of a stands behind, where none follows", "xab", "abx", pairs(1, 0, 2, 1)},
		{"the first of a stands behind, as many follow", "xa", "ax", pairs(0, 1)},
		{"the least of a, though another one has less of b", "xyab", "yabxab", pairs(0, 3, 2, 4, 3, 5)},
		{"the least of a, though far behind in b", "xyz", "yxz", pairs(0, 1, 2, 2)},
		{"the least of b that is the same", "ab", "aab", pairs(0, 0, 1, 2)},
		{"the least of a, behind the first pair too", "aba", "aa", pairs(0, 0, 2, 1)},
		{"of two in the middle the least of a", "abcd", "acbd", pairs(0, 0, 1, 2, 3, 3)},
		{"of two in the middle, turned", "acbd", "abcd", pairs(0, 0, 1, 2, 3, 3)},
		{"two blocks that cross, the longer behind", "abcxy", "xyabc", pairs(0, 2, 1, 3, 2, 4)},
		{"two blocks that cross, the longer ahead", "abxyz", "xyzab", pairs(2, 0, 3, 1, 4, 2)},
		{"two blocks that cross, as long", "abxy", "xyab", pairs(0, 2, 1, 3)},
		{"the first of a would leave too few", "abcabba", "cbabac", pairs(1, 1, 3, 2, 4, 3, 6, 4)},
		{"apart from one another", "aXbYc", "PaQbRcS", pairs(0, 1, 2, 3, 4, 5)},
	} {
		expect(t, c.what, texts(c.a), texts(c.b), c.want)
	}
}

func TestTextsOfAllKinds(t *testing.T) { // P11.1
	long := strings.Repeat("x", 1<<16)
	for _, c := range []struct {
		what string
		a, b []string
		want []api.Pair
	}{
		{"empty texts", []string{"", "a"}, []string{"a", "", "a"}, pairs(0, 1, 1, 2)},
		{"an empty list", []string{}, []string{}, nil},
		{"an end more", []string{"a\n", "a"}, []string{"a"}, pairs(1, 0)},
		{"upper and lower", []string{"A", "a"}, []string{"a"}, pairs(1, 0)},
		{"a byte 0 more", []string{"a\x00", "a"}, []string{"a"}, pairs(1, 0)},
		{"bytes that are no runes", []string{"\xff", "\xfe", "\ufffd"}, []string{"\ufffd", "\xfe"}, pairs(1, 1)},
		{"the same letter in two ways", []string{"\u00e4"}, []string{"a\u0308"}, nil},
		{"texts that begin alike", []string{"ab", "abc"}, []string{"abc", "a", "ab"}, pairs(0, 2)},
		{"long ones that differ at last", []string{long + "a", long + "b"}, []string{long + "b", long, long + "c"}, pairs(1, 0)},
	} {
		expect(t, c.what, c.a, c.b, c.want)
	}
}

// TestLongTexts: texts are long and alike up to their last bytes, and lists full.
func TestLongTexts(t *testing.T) { // P11.1
	head := strings.Repeat("x", 100000)
	a, b := unlike(200), unlike(400)[200:]
	for i := range a {
		a[i], b[i] = head+"a"+a[i], head+"b"+b[i]
	}
	expect(t, "nothing in common", a, b, nil)
	b[199] = strings.Clone(a[7])
	expect(t, "the last one of b", a, b, pairs(7, 199))
}

func TestIs(t *testing.T) { // P11.1
	a, b := texts("xyxz"), texts("xxyz")
	for _, c := range []struct {
		what string
		l    []api.Pair
		want bool
	}{
		{"none", nil, true},
		{"an empty list", []api.Pair{}, true},
		{"one", pairs(0, 0), true},
		{"one that isn't the least", pairs(2, 1), true},
		{"the last ones", pairs(3, 3), true},
		{"a row that isn't the longest", pairs(0, 1, 3, 3), true},
		{"a row", pairs(0, 0, 1, 2, 3, 3), true},
		{"another row as long", pairs(0, 0, 2, 1, 3, 3), true},
		{"other texts", pairs(0, 2), false},
		{"other texts behind", pairs(0, 0, 1, 1), false},
		{"other texts ahead", pairs(1, 0, 3, 3), false},
		{"falling", pairs(2, 1, 0, 0), false},
		{"falling in a", pairs(2, 0, 0, 1), false},
		{"falling in b", pairs(0, 1, 2, 0), false},
		{"falling at last", pairs(0, 0, 3, 3, 1, 2), false},
		{"a place of a twice", pairs(0, 0, 0, 1), false},
		{"a place of b twice", pairs(0, 0, 2, 0), false},
		{"a pair twice", pairs(0, 0, 0, 0), false},
		{"behind a's end", pairs(4, 3), false},
		{"behind b's end", pairs(3, 4), false},
		{"behind both", pairs(4, 4), false},
		{"ahead of a", pairs(-1, 0), false},
		{"ahead of b", pairs(0, -1), false},
		{"ahead of both", pairs(-1, -1), false},
		{"the greatest of a", pairs(math.MaxInt, 0), false},
		{"the greatest of b", pairs(0, math.MaxInt), false},
		{"the least of a", pairs(math.MinInt, 0), false},
		{"the least of b", pairs(0, math.MinInt), false},
		{"the greatest ones, and on from there", pairs(math.MaxInt, math.MaxInt, 0, 0), false},
		{"the least ones behind a row", pairs(0, 0, math.MinInt, math.MinInt), false},
	} {
		if got := Is(a, b, c.l); got != c.want {
			t.Errorf("P11.1: %s: Is is %v", c.what, got)
		}
	}
	for _, l := range [][]api.Pair{pairs(0, 0), pairs(-1, -1), pairs(0, -1)} {
		if Is(nil, nil, l) || Is(a, nil, l) || Is(nil, b, l) {
			t.Errorf("P11.1: %v is a matching of nothing", l)
		}
	}
	if !Is(nil, nil, nil) || !Is(a, nil, nil) || !Is([]string{}, b, []api.Pair{}) {
		t.Error("P11.1: no pairs are no matching of nothing")
	}
}

// TestFirst200 has lists of just as many as are asked, and of one more.
func TestFirst200(t *testing.T) { // P11.1
	full, more := unlike(200), unlike(201)
	expect(t, "200 and 200", full, full, step(0, 0, 200))
	expect(t, "201 and 200", more, full, step(0, 0, 200))
	expect(t, "201 and 201", more, more, step(0, 0, 200))
	expect(t, "200 and 199", full, full[1:], step(1, 0, 199))
	expect(t, "201, the last one in common", more, more[200:], nil)
	expect(t, "201, the last two in common", more, more[199:], pairs(199, 0))
	expect(t, "one ahead of 200", full, append([]string{"one"}, full...), step(0, 1, 199))
	expect(t, "200 alike", alike(200, ""), alike(201, ""), step(0, 0, 200))
	expect(t, "many alike", alike(1000, ""), alike(2000, ""), step(0, 0, 200))
	expect(t, "many and one", alike(1000, "a"), texts("a"), pairs(0, 0))

	// The 201st one would make another matching the longest.
	a := append(slices.Concat(texts("xy"), alike(198, "-")), "z")
	b := texts("yzx")
	expect(t, "201, the last one would tell", a, b, pairs(0, 2))
	expect(t, "the same, its last one not the 201st", slices.Delete(slices.Clone(a), 2, 3), b, pairs(1, 0, 199, 1))

	for _, c := range []struct {
		a, b []string
		l    []api.Pair
		want bool
	}{
		{more, more, pairs(199, 199), true},
		{more, more, pairs(200, 200), false},
		{more, more, append(step(0, 0, 200), api.Pair{A: 200, B: 200}), false},
		{more, more[200:], pairs(200, 0), false},
		{more[200:], more, pairs(0, 200), false},
		{more, more[199:], pairs(199, 0), true},
		{more, more[199:], pairs(199, 0, 200, 1), false},
		{alike(300, "a"), alike(300, "a"), pairs(199, 200), false},
		{alike(300, "a"), alike(300, "a"), pairs(200, 199), false},
		{alike(300, "a"), alike(300, "a"), pairs(0, 199), true},
		{full, full, slices.Repeat(step(0, 0, 200), 2), false},
	} {
		if got := Is(c.a, c.b, c.l); got != c.want {
			t.Errorf("P11.1: %d, %d texts, %v: Is is %v", len(c.a), len(c.b), c.l, got)
		}
	}
}

// isByHand: each pair held against all others.
func isByHand(a, b []string, l []api.Pair) bool {
	for i, p := range l {
		if p.A < 0 || p.A >= len(a) || p.B < 0 || p.B >= len(b) || a[p.A] != b[p.B] {
			return false
		}
		for _, q := range l[:i] {
			if q.A >= p.A || q.B >= p.B {
				return false
			}
		}
	}
	return true
}

func TestIsByHand(t *testing.T) { // P11.1
	var all []api.Pair
	for a := -1; a < 4; a++ {
		for b := -1; b < 4; b++ {
			all = append(all, api.Pair{A: a, B: b})
		}
	}
	rows := lists(all, 2)
	for _, a := range lists(texts("ab"), 3) {
		for _, b := range lists(texts("ab"), 3) {
			for _, l := range rows {
				if want := isByHand(a, b, l); Is(a, b, l) != want {
					t.Fatalf("P11.1: %q, %q, %v: Is is %v", a, b, l, !want)
				}
			}
			l := pairs(0, 0, 1, 1, 2, 2)
			if want := isByHand(a, b, l); Is(a, b, l) != want {
				t.Fatalf("P11.1: %q, %q, %v: Is is %v", a, b, l, !want)
			}
		}
	}
}

// best goes through all matchings from a pair of places on: the longest one, of these the one with the least places.
func best(a, b []string, from api.Pair) []api.Pair {
	var most []api.Pair
	for i := from.A; i < len(a); i++ {
		for k := from.B; k < len(b); k++ {
			if a[i] != b[k] {
				continue
			}
			rest := best(a, b, api.Pair{A: i + 1, B: k + 1})
			if 1+len(rest) > len(most) {
				most = append([]api.Pair{{A: i, B: k}}, rest...)
			}
		}
	}
	return most
}

func TestLongestByHand(t *testing.T) { // P11.1
	all := lists(texts("abc"), 4)
	for _, a := range all {
		for _, b := range all {
			expect(t, strings.Join(a, "")+", "+strings.Join(b, ""), a, b, best(a, b, api.Pair{}))
		}
		if t.Failed() {
			return
		}
	}
}

// lengths: of all ends of a and b how many pairs the longest matching has, by the plain rule for texts held against each other one by one.
func lengths(a, b []string) [][]int {
	t := make([][]int, len(a)+1)
	t[len(a)] = make([]int, len(b)+1)
	for i := len(a) - 1; i >= 0; i-- {
		t[i] = make([]int, len(b)+1)
		for k := len(b) - 1; k >= 0; k-- {
			t[i][k] = max(t[i+1][k], t[i][k+1])
			if a[i] == b[k] {
				t[i][k] = max(t[i][k], 1+t[i+1][k+1])
			}
		}
	}
	return t
}

// firstRow: the longest matching, pair by pair, each the first one that lets it be a longest one.
func firstRow(a, b []string, left [][]int) []api.Pair {
	var l []api.Pair
	k := 0
	for i := range a {
		for place := k; place < len(b); place++ {
			if a[i] == b[place] && 1+left[i+1][place+1] == left[0][0]-len(l) {
				l = append(l, api.Pair{A: i, B: place})
				k = place + 1
				break
			}
		}
	}
	return l
}

func TestLongLists(t *testing.T) { // P11.1
	random := rand.New(rand.NewSource(11))
	row := func(n, kinds int) []string {
		l := make([]string, n)
		for i := range l {
			l[i] = strconv.Itoa(random.Intn(kinds))
		}
		return l
	}
	for range 150 {
		kinds := 1 + random.Intn(60)
		a, b := row(random.Intn(90), kinds), row(random.Intn(90), kinds)
		left := lengths(a, b)
		expect(t, "a long list", a, b, firstRow(a, b, left))
		if Length(a, b) != left[0][0] {
			t.Fatalf("P11.1: Length is %d, want %d", Length(a, b), left[0][0])
		}
	}
	for _, kinds := range []int{1, 2, 3, 20, 200} {
		a, b := row(250, kinds), row(230, kinds)
		expect(t, "longer than what is asked", a, b, firstRow(a[:200], b[:200], lengths(a[:200], b[:200])))
	}
}

// said: what must be said of b to whom has a: of each text either its place in a, or the text.
type said struct {
	place int
	text  string
}

func sayB(a, b []string) ([]said, int) {
	l := make([]said, len(b))
	for k, text := range b {
		l[k] = said{-1, text}
	}
	for _, p := range Longest(a, b) {
		l[p.B] = said{place: p.A}
	}
	anew := 0
	for _, s := range l {
		if s.place < 0 {
			anew++
		}
	}
	return l, anew
}

// TestTheSameNeedntBeSaid: b comes back from a and what is said anew; of a itself nothing is; and saying less is not enough.
func TestTheSameNeedntBeSaid(t *testing.T) { // P11.2
	all := lists(texts("abc"), 4)
	for _, a := range all {
		if l := Longest(a, slices.Clone(a)); !slices.Equal(l, step(0, 0, len(a))) {
			t.Fatalf("P11.2: of %q itself all is said but %v", a, l)
		}
		for _, b := range all {
			l, anew := sayB(a, b)
			last := -1
			for k, s := range l {
				if s.place < 0 {
					continue
				}
				if s.place <= last || a[s.place] != b[k] {
					t.Fatalf("P11.2: %q, %q: %v doesn't bring b back", a, b, l)
				}
				last = s.place
			}
			if want := len(b) - lengths(a, b)[0][0]; anew != want || len(b)-Length(a, b) != want {
				t.Fatalf("P11.2: %q, %q: %d are said anew, want %d", a, b, anew, want)
			}
		}
	}
}

// TestNothingIsSharedOrChanged hands in the fronts of lists, with more behind them that would match.
func TestNothingIsSharedOrChanged(t *testing.T) { // P11.1
	roomA, roomB, roomL := texts("abcxyz"), texts("bcdxyz"), pairs(1, 0, 2, 1, 7, 8)
	a, b, l := roomA[:3], roomB[:3], roomL[:2]
	want := pairs(1, 0, 2, 1)
	earlier, spoilt := Longest(a, b), Longest(a, b)
	later := Longest(a, b)
	for i := range spoilt[:cap(spoilt)] {
		spoilt[:cap(spoilt)][i] = api.Pair{A: -7, B: -7}
	}
	for _, got := range [][]api.Pair{earlier, later, Longest(a, b)} {
		if !slices.Equal(got, want) {
			t.Errorf("P11.1: an answer is touched by another one: %v", got)
		}
	}
	if Length(a, b) != 2 || !Is(a, b, l) || Is(a, b, roomL) {
		t.Errorf("P11.1: Length is %d, Is %v", Length(a, b), Is(a, b, l))
	}
	if !slices.Equal(roomA, texts("abcxyz")) || !slices.Equal(roomB, texts("bcdxyz")) || !slices.Equal(roomL, pairs(1, 0, 2, 1, 7, 8)) {
		t.Errorf("P11.1: what was handed in is changed: %q, %q, %v", roomA, roomB, roomL)
	}
	// One list as both.
	if got := Longest(roomA[:4], roomA[2:]); !slices.Equal(got, pairs(2, 0, 3, 1)) || !slices.Equal(roomA, texts("abcxyz")) {
		t.Errorf("P11.1: two pieces of a list: %v, %q", got, roomA)
	}
}
