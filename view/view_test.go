package view

import (
	"math"
	"math/rand"
	"slices"
	"strconv"
	"strings"
	"testing"

	"cento/api"
	"cento/patch"
	"cento/state"
)

func id(p uint32, n int) api.LineID { return api.LineID{Patch: p, N: n} }

// file of these lines, a dead one with a stroke ahead of its text, and pairs, told by two digits each: "01 12".
func file(texts []string, pairs string) api.File {
	f := api.File{Path: "notes"}
	for k, text := range texts {
		text, dead := strings.CutPrefix(text, "-")
		f.Lines = append(f.Lines, api.Line{ID: id(uint32(7+k/2), k%2), Text: text, Dead: dead})
	}
	for _, p := range strings.Fields(pairs) {
		f.Pairs = append(f.Pairs, api.Pair{A: int(p[0] - '0'), B: int(p[1] - '0')})
	}
	return f
}

// ahead: by hand, who is ahead of whom in f.
func ahead(f api.File) [][]bool {
	n := len(f.Lines)
	m := make([][]bool, n)
	for a := range m {
		m[a] = make([]bool, n)
	}
	for _, p := range f.Pairs {
		if min(p.A, p.B) >= 0 && max(p.A, p.B) < n {
			m[p.A][p.B] = true
		}
	}
	for via := range m {
		for a := range m {
			if m[a][via] {
				for b := range m {
					m[a][b] = m[a][b] || m[via][b]
				}
			}
		}
	}
	return m
}

// orderByHand: class by class, each time the first place whose class is behind none that is left.
func orderByHand(f api.File, m [][]bool) []int {
	var left, order []int
	for a, line := range f.Lines {
		if !line.Dead {
			left = append(left, a)
		}
	}
	for len(left) > 0 {
		first := slices.IndexFunc(left, func(a int) bool {
			return !slices.ContainsFunc(left, func(b int) bool { return m[b][a] && !m[a][b] })
		})
		a := left[first]
		isIn := func(b int) bool { return a == b || m[a][b] && m[b][a] }
		for _, b := range left {
			if isIn(b) {
				order = append(order, b)
			}
		}
		left = slices.DeleteFunc(left, isIn)
	}
	return order
}

func markByHand(f api.File, m [][]bool, a int) byte {
	if m[a][a] {
		return '!'
	}
	for b, line := range f.Lines {
		if b != a && !line.Dead && !m[a][b] && !m[b][a] {
			return '?'
		}
	}
	return ' '
}

// check holds all views of f against what is found by hand.
func check(t *testing.T, what string, f api.File) {
	t.Helper()
	m := ahead(f)
	order := orderByHand(f, m)
	var shown []api.Shown
	text, print, conflicts := "", "", 0
	for _, a := range order {
		line := f.Lines[a]
		s := api.Shown{ID: line.ID, Mark: markByHand(f, m, a), Text: line.Text}
		shown = append(shown, s)
		text += line.Text
		print += string(s.Mark) + strings.TrimSuffix(line.Text, "\n") + "\n"
		if s.Mark != ' ' {
			conflicts++
		}
	}
	if conflicts > 0 {
		text = ""
	}
	if got := Order(f); !slices.Equal(got, order) {
		t.Errorf("P14.1: %s: Order %v, want %v", what, got, order)
	}
	if got := Linear(f); got != (conflicts == 0) {
		t.Errorf("P14.1: %s: Linear %v", what, got)
	}
	if got, ok := Text(f); got != text || ok != (conflicts == 0) {
		t.Errorf("P14.1: %s: Text %q, %v, want %q", what, got, ok, text)
	}
	if got := Show(f); !slices.Equal(got, shown) {
		t.Errorf("P14.2: %s: Show %v, want %v", what, got, shown)
	}
	if got := Print(f); got != print {
		t.Errorf("P14.2: %s: Print %q, want %q", what, got, print)
	}
	if got := Conflicts(f); got != conflicts {
		t.Errorf("P14.2, P14.3: %s: Conflicts %d, want %d", what, got, conflicts)
	}
}

func TestViews(t *testing.T) { // P14.1, P14.2, P14.3
	for _, c := range []struct {
		what      string
		f         api.File
		order     []int
		print     string
		text      string
		conflicts int
	}{
		{"no lines", api.File{}, nil, "", "", 0},
		{"no lines and pairs", file(nil, "00 01"), nil, "", "", 0},
		{"a line", file([]string{"a\n"}, ""), []int{0}, " a\n", "a\n", 0},
		{"a line without an end", file([]string{"a"}, ""), []int{0}, " a\n", "a", 0},
		{"a line of nothing", file([]string{""}, ""), []int{0}, " \n", "", 0},
		{"an end alone", file([]string{"\n"}, ""), []int{0}, " \n", "\n", 0},
		{"an end within", file([]string{"a\nb", "c\n\n"}, "01"), []int{0, 1}, " a\nb\n c\n\n", "a\nbc\n\n", 0},
		{"bytes that are no text", file([]string{"\xff\x00\n", "\xc3"}, "01"), []int{0, 1}, " \xff\x00\n \xc3\n", "\xff\x00\n\xc3", 0},
		{"dead lines alone", file([]string{"-a\n", "-b\n"}, ""), nil, "", "", 0},
		{"two that nobody ordered", file([]string{"a\n", "b\n"}, ""), []int{0, 1}, "?a\n?b\n", "", 2},
		{"two that nobody ordered, with the same text", file([]string{"a\n", "a\n"}, ""), []int{0, 1}, "?a\n?a\n", "", 2},
		{"two the other way round", file([]string{"a\n", "b\n"}, "10"), []int{1, 0}, " b\n a\n", "b\na\n", 0},
		{"a line without an end ahead", file([]string{"a", "b"}, "10"), []int{1, 0}, " b\n a\n", "ba", 0},
		{"one that is ahead of itself", file([]string{"a\n"}, "00"), []int{0}, "!a\n", "", 1},
		{"two in a circle", file([]string{"a\n", "b\n"}, "01 10"), []int{0, 1}, "!a\n!b\n", "", 2},
		{"two in a circle, and one behind", file([]string{"a\n", "b\n", "c\n"}, "12 21 10"), []int{1, 2, 0}, "!b\n!c\n a\n", "", 2},
		{"two in a circle, and one that nobody ordered", file([]string{"a\n", "b\n", "c\n"}, "02 20"), []int{0, 2, 1}, "!a\n!c\n?b\n", "", 3},
		{"a circle of three", file([]string{"a\n", "b\n", "c\n"}, "02 21 10"), []int{0, 1, 2}, "!a\n!b\n!c\n", "", 3},
		{"two circles", file([]string{"a\n", "b\n", "c\n", "d\n"}, "03 30 12 21 20"), []int{1, 2, 0, 3}, "!b\n!c\n!a\n!d\n", "", 4},
		{"two circles that nobody ordered", file([]string{"a\n", "b\n", "c\n", "d\n"}, "03 30 12 21"), []int{0, 3, 1, 2}, "!a\n!d\n!b\n!c\n", "", 4},
		{"a circle over a dead line", file([]string{"a\n", "-b\n"}, "01 10"), []int{0}, "!a\n", "", 1},
		{"a circle over a dead line, of two", file([]string{"-a\n", "b\n", "c\n"}, "01 12 20"), []int{1, 2}, "!b\n!c\n", "", 2},
		{"a dead line that is ahead of itself", file([]string{"a\n", "-b\n", "c\n"}, "01 11 12"), []int{0, 2}, " a\n c\n", "a\nc\n", 0},
		{"a circle of dead lines", file([]string{"a\n", "-b\n", "-c\n", "d\n"}, "31 12 21 20"), []int{3, 0}, " d\n a\n", "d\na\n", 0},
		{"a circle of dead lines at the side", file([]string{"a\n", "-b\n", "-c\n", "d\n"}, "12 21 30"), []int{3, 0}, " d\n a\n", "d\na\n", 0},
		{"over a dead line", file([]string{"a\n", "-b\n", "c\n"}, "21 10"), []int{2, 0}, " c\n a\n", "c\na\n", 0},
		{"over two dead lines", file([]string{"a\n", "-b\n", "-c\n", "d\n"}, "31 12 20"), []int{3, 0}, " d\n a\n", "d\na\n", 0},
		{"a dead line that nobody ordered", file([]string{"a\n", "-b\n", "c\n"}, "20"), []int{2, 0}, " c\n a\n", "c\na\n", 0},
		{"both behind a dead line", file([]string{"-a\n", "b\n", "c\n"}, "01 02"), []int{1, 2}, "?b\n?c\n", "", 2},
		{"both ahead of a dead line", file([]string{"a\n", "b\n", "-c\n"}, "02 12"), []int{0, 1}, "?a\n?b\n", "", 2},
		{"one ahead of two", file([]string{"a\n", "b\n", "c\n"}, "20 21"), []int{2, 0, 1}, " c\n?a\n?b\n", "", 2},
		{"one behind two", file([]string{"a\n", "b\n", "c\n"}, "10 20"), []int{1, 2, 0}, "?b\n?c\n a\n", "", 2},
		{"one between", file([]string{"a\n", "b\n", "c\n", "d\n", "e\n"}, "02 12 23 24"), []int{0, 1, 2, 3, 4}, "?a\n?b\n c\n?d\n?e\n", "", 4},
		{"one beside a row", file([]string{"a\n", "b\n", "c\n"}, "21"), []int{0, 2, 1}, "?a\n?c\n?b\n", "", 3},
		{"the least that may come next", file([]string{"a\n", "b\n", "c\n", "d\n"}, "30 12"), []int{1, 2, 3, 0}, "?b\n?c\n?d\n?a\n", "", 4},
		{"not transitive", file([]string{"a\n", "b\n", "c\n", "d\n"}, "32 21 10"), []int{3, 2, 1, 0}, " d\n c\n b\n a\n", "d\nc\nb\na\n", 0},
		{"pairs twice, and not rising", file([]string{"a\n", "b\n", "c\n"}, "12 01 12 02 01"), []int{0, 1, 2}, " a\n b\n c\n", "a\nb\nc\n", 0},
		{"pairs of no lines", file([]string{"a\n", "b\n"}, "02 21 12 20 22"), []int{0, 1}, "?a\n?b\n", "", 2},
	} {
		if got := Order(c.f); !slices.Equal(got, c.order) {
			t.Errorf("P14.1: %s: Order %v, want %v", c.what, got, c.order)
		}
		if text, ok := Text(c.f); text != c.text || ok != (c.conflicts == 0) {
			t.Errorf("P14.1: %s: Text %q, %v", c.what, text, ok)
		}
		if got := Print(c.f); got != c.print {
			t.Errorf("P14.2: %s: Print %q, want %q", c.what, got, c.print)
		}
		if got := Conflicts(c.f); got != c.conflicts {
			t.Errorf("P14.2: %s: Conflicts %d, want %d", c.what, got, c.conflicts)
		}
		check(t, c.what, c.f)
	}
}

func TestShow(t *testing.T) { // P14.2
	f := file([]string{"a\n", "-b\n", "c", "d\n", "e\n"}, "30 34 42 20 24 42")
	want := []api.Shown{
		{ID: id(8, 1), Mark: ' ', Text: "d\n"},
		{ID: id(8, 0), Mark: '!', Text: "c"},
		{ID: id(9, 0), Mark: '!', Text: "e\n"},
		{ID: id(7, 0), Mark: ' ', Text: "a\n"},
	}
	if got := Show(f); !slices.Equal(got, want) {
		t.Errorf("P14.2: Show %v, want %v", got, want)
	}
}

func TestNumbersAreOnlyTold(t *testing.T) { // P14.1, P14.2
	f := api.File{Lines: []api.Line{
		{ID: id(9, math.MinInt), Text: "a\n"},
		{ID: id(math.MaxUint32, math.MaxInt), Text: "b\n"},
		{ID: id(9, math.MinInt), Text: "c\n", Dead: true},
		{ID: id(9, math.MinInt), Text: "d\n"},
		{Text: "e\n"},
	}, Pairs: []api.Pair{{A: 4, B: 3}, {A: 3, B: 2}, {A: 2, B: 1}, {A: 1, B: 0}}}
	check(t, "lines that don't rise, several of a number", f)
	if text, ok := Text(f); text != "e\nd\nb\na\n" || !ok {
		t.Errorf("P14.1: Text %q, %v", text, ok)
	}
}

func TestPairsOfNoLines(t *testing.T) { // P14.1, P14.2
	for _, wrong := range []int{math.MinInt, math.MinInt32, -200, -1, 3, 4, 63, 64, 199, 200, 201, math.MaxInt32, math.MaxInt} {
		f := file([]string{"a\n", "b\n", "c\n"}, "20")
		for k := range f.Lines {
			f.Pairs = append(f.Pairs, api.Pair{A: k, B: wrong}, api.Pair{A: wrong, B: k})
		}
		f.Pairs = append(f.Pairs, api.Pair{A: wrong, B: wrong})
		check(t, "pairs with "+strconv.Itoa(wrong), f)
		if got := Print(f); got != "?b\n?c\n?a\n" {
			t.Errorf("P14.2: pairs with %d: %q", wrong, got)
		}
		for k := range f.Lines {
			f.Lines[k].Dead = k == 1
		}
		if text, ok := Text(f); text != "c\na\n" || !ok {
			t.Errorf("P14.1: pairs with %d: %q, %v", wrong, text, ok)
		}
	}
}

// random file of n lines, about one of dead dead, with so many pairs, about one of back of them to the front.
func random(r *rand.Rand, n, dead, pairs, back int) api.File {
	f := api.File{}
	names := r.Perm(n)
	for k := range n {
		text := strconv.Itoa(k)
		if r.Intn(2) == 0 {
			text += "\n"
		}
		f.Lines = append(f.Lines, api.Line{ID: id(uint32(k), k), Text: text, Dead: r.Intn(dead) == 0})
	}
	for range pairs {
		a, b := r.Intn(n+1), r.Intn(n+1)
		if r.Intn(back) > 0 {
			a, b = min(a, b), max(a, b)
		}
		if max(a, b) < n && r.Intn(2) == 0 {
			a, b = names[a], names[b]
		}
		if a != b || r.Intn(4) == 0 {
			f.Pairs = append(f.Pairs, api.Pair{A: a, B: b})
		}
	}
	return f
}

func TestByHand(t *testing.T) { // P14.1, P14.2
	r := rand.New(rand.NewSource(14))
	for k := range 3000 {
		n := r.Intn(9)
		f := random(r, n, 1+r.Intn(5), r.Intn(14), 1+r.Intn(12))
		if k%10 == 0 {
			f = random(r, 30+r.Intn(11), 3, 20+r.Intn(300), 20+r.Intn(400))
		}
		check(t, strconv.Itoa(k), f)
	}
}

func TestBothWays(t *testing.T) { // P14.1, P14.2
	r := rand.New(rand.NewSource(41))
	for range 3000 {
		f := random(r, r.Intn(9), 1+r.Intn(5), r.Intn(20), 1+r.Intn(20))
		type place struct {
			at   int
			mark byte
		}
		var narrow, wide []place
		for at, mark := range markedRel(f) {
			narrow = append(narrow, place{at, mark})
		}
		for at, mark := range markedWide(f) {
			wide = append(wide, place{at, mark})
		}
		if !slices.Equal(narrow, wide) {
			t.Fatalf("P14.1, P14.2: %v: %v by a relation, %v else", f, narrow, wide)
		}
	}
}

// row of n lines, the last one the first, each third one dead.
func row(n int) api.File {
	f := api.File{}
	for k := range n {
		f.Lines = append(f.Lines, api.Line{ID: id(1, k), Text: strconv.Itoa(k) + "\n", Dead: k%3 == 1})
		if k > 0 {
			f.Pairs = append(f.Pairs, api.Pair{A: k, B: k - 1})
		}
	}
	return f
}

func TestMoreThanARelationHolds(t *testing.T) { // P14.1, P14.2
	r := rand.New(rand.NewSource(200))
	for _, n := range []int{39, 40, 41, 63, 64, 65, 199, 200, 201, 202, 300} {
		what := strconv.Itoa(n) + " lines"
		f := row(n)
		check(t, what+" in a row", f)
		if !Linear(f) || len(Order(f)) != len(state.Alive(f)) {
			t.Errorf("P14.1: %s in a row: not linear", what)
		}
		f.Pairs = append(f.Pairs, api.Pair{A: 0, B: n - 1})
		check(t, what+" in a circle", f)
		if got := Conflicts(f); got != len(state.Alive(f)) {
			t.Errorf("P14.2: %s in a circle: %d", what, got)
		}
		f.Pairs = nil
		check(t, what+" that nobody ordered", f)
		f = row(n)
		f.Pairs = slices.Delete(f.Pairs, n/2, n/2+1)
		check(t, what+" in two rows", f)
		for range 4 {
			check(t, what, random(r, n, 3, n*(1+r.Intn(20)), 100*n))
			check(t, what, random(r, n, 1+n, 3*n, 10))
		}
	}
}

func TestManyLines(t *testing.T) { // P14.1, P14.2
	const n = 200_000
	f := row(n)
	text, ok := Text(f)
	if !ok || !strings.HasPrefix(text, "199998\n199997\n199995\n199994\n") || !strings.HasSuffix(text, "\n5\n3\n2\n0\n") {
		t.Error("P14.1: of a long row no text")
	}
	f.Pairs = append(f.Pairs, api.Pair{A: n / 2, B: n - 1})
	if got := Conflicts(f); got < n/3-2 || got > n/3+2 {
		t.Errorf("P14.2: of a long row, the first half of it in a circle, %d", got)
	}
	f.Pairs = nil
	if got := Order(f); !slices.Equal(got, state.Alive(f)) || Conflicts(f) != len(got) {
		t.Error("P14.1, P14.2: of lines that nobody ordered")
	}
	f.Lines = f.Lines[:2]
	f.Pairs = slices.Repeat([]api.Pair{{A: 1, B: 0}, {A: n, B: -n}}, n)
	if !Linear(f) {
		t.Error("P14.1: the same pair many times")
	}
}

// spoil writes over all of l and of the room behind it.
func spoil[T any](l []T, with T) {
	l = l[:cap(l)]
	for k := range l {
		l[k] = with
	}
}

func TestNothingIsShared(t *testing.T) { // P14.1, P14.2
	for _, n := range []int{5, 300} {
		f := row(n)
		f.Lines, f.Pairs = slices.Grow(f.Lines, 8), slices.Grow(f.Pairs, 8)
		lines, pairs := slices.Clone(f.Lines[:cap(f.Lines)]), slices.Clone(f.Pairs[:cap(f.Pairs)])
		order, show := Order(f), Show(f)
		wantOrder, wantShow := slices.Clone(order), slices.Clone(show)
		spoil(Order(f), -1)
		spoil(Show(f), api.Shown{Text: "spoilt"})
		if !slices.Equal(order, wantOrder) || !slices.Equal(show, wantShow) {
			t.Error("P14.1, P14.2: an answer is touched by another one")
		}
		Text(f)
		Print(f)
		Linear(f)
		Conflicts(f)
		if !slices.Equal(f.Lines[:cap(f.Lines)], lines) || !slices.Equal(f.Pairs[:cap(f.Pairs)], pairs) {
			t.Error("P14.1, P14.2: what is handed in is changed")
		}
		spoil(f.Lines, api.Line{Text: "spoilt"})
		spoil(f.Pairs, api.Pair{})
		if !slices.Equal(order, wantOrder) || !slices.Equal(show, wantShow) {
			t.Error("P14.1, P14.2: what is handed in is kept")
		}
	}
}

func TestMayBeLeft(t *testing.T) { // P14.2
	for _, n := range []int{9, 300} {
		f := row(n)
		lines := shown(f)
		for at := range lines {
			if at != n-1 {
				t.Errorf("P14.2: the first of %d is %d", n, at)
			}
			count := 0
			for range lines {
				count++
				if count == 4 {
					break
				}
			}
			break
		}
		count := 0
		for range lines {
			count++
		}
		if count != len(state.Alive(f)) {
			t.Errorf("P14.2: gone through again: %d", count)
		}
	}
}

func TestNotAgreedUpon(t *testing.T) { // P14.3
	needing := func(p api.Patch) api.Patch {
		p.Deps = patch.Needs(p)
		return p
	}
	base := api.Patch{ID: 1, Makes: []string{"notes"}, Hunks: []api.Hunk{{Path: "notes", Adds: []string{"a\n", "z\n"}, Edges: []api.Edge{{A: id(1, 0), B: id(1, 1)}}}}}
	between := func(number uint32, text string) api.Patch {
		return needing(api.Patch{ID: number, Hunks: []api.Hunk{{Path: "notes", Adds: []string{text}, Edges: []api.Edge{{A: id(1, 0), B: id(number, 0)}, {A: id(number, 0), B: id(1, 1)}}}}})
	}
	says := func(number uint32, a, b api.LineID) api.Patch {
		return needing(api.Patch{ID: number, Hunks: []api.Hunk{{Path: "notes", Edges: []api.Edge{{A: a, B: b}}}}})
	}
	kills := func(number uint32, l ...api.LineID) api.Patch {
		return needing(api.Patch{ID: number, Hunks: []api.Hunk{{Path: "notes", Kills: l}}})
	}
	m, n := between(2, "m\n"), between(3, "n\n")
	for _, c := range []struct {
		what  string
		l     []api.Patch
		print string
	}{
		{"one alone", []api.Patch{base}, " a\n z\n"},
		{"one between", []api.Patch{base, n}, " a\n n\n z\n"},
		{"two written apart", []api.Patch{base, m, n}, " a\n?m\n?n\n z\n"},
		{"said which comes first", []api.Patch{base, m, n, says(4, id(3, 0), id(2, 0))}, " a\n n\n m\n z\n"},
		{"said the contrary", []api.Patch{base, m, n, says(4, id(3, 0), id(2, 0)), says(5, id(2, 0), id(3, 0))}, " a\n!m\n!n\n z\n"},
		{"the contrary over all", []api.Patch{base, m, n, says(4, id(1, 1), id(1, 0))}, "!a\n!z\n!m\n!n\n"},
		{"one of both killed", []api.Patch{base, m, n, kills(4, id(2, 0))}, " a\n n\n z\n"},
		{"both ends killed", []api.Patch{base, m, n, kills(4, id(1, 0), id(1, 1))}, "?m\n?n\n"},
		{"all killed", []api.Patch{base, kills(4, id(1, 0), id(1, 1))}, ""},
	} {
		files, err := state.Of(c.l)
		if err != api.OK || len(files) != 1 {
			t.Fatalf("P14.3: %s: %v, %v", c.what, files, err)
		}
		if got := Print(files[0]); got != c.print {
			t.Errorf("P14.3: %s: %q, want %q", c.what, got, c.print)
		}
		check(t, c.what, files[0])
	}
}
