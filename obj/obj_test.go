package obj

import (
	"math"
	"math/rand"
	"slices"
	"strings"
	"testing"

	"cento/api"
	"cento/rel"
)

// wrong: numbers that are an element of no object.
var wrong = []int{math.MinInt, math.MinInt32, -64, -1, 40, 41, 200, 1 << 32, math.MaxInt}

var (
	longest = strings.Repeat("x", api.MaxLine)
	tooLong = strings.Repeat("x", api.MaxLine+1)
)

// pairsOf: 0, 1, 1, 2 is 0 ahead of 1, 1 ahead of 2.
func pairsOf(numbers ...int) []api.Pair {
	var l []api.Pair
	for i := 0; i < len(numbers); i += 2 {
		l = append(l, api.Pair{A: numbers[i], B: numbers[i+1]})
	}
	return l
}

func objOf(labels []string, numbers ...int) api.Obj {
	return api.Obj{Labels: labels, Pairs: pairsOf(numbers...)}
}

func relOf(n int, l []api.Pair) *rel.Rel {
	r := rel.New(n)
	for _, p := range l {
		r.Add(p.A, p.B)
	}
	return r
}

// letters: n labels, some of them alike.
func letters(n int) []string {
	l := make([]string, n)
	for i := range l {
		l[i] = string(rune('a' + i%26))
	}
	return l
}

// row: the pairs of n elements each of which is ahead of all behind it.
func row(n int) []api.Pair {
	var l []api.Pair
	for a := range n {
		for b := a + 1; b < n; b++ {
			l = append(l, api.Pair{A: a, B: b})
		}
	}
	return l
}

// circle: all pairs of n elements.
func circle(n int) []api.Pair {
	var l []api.Pair
	for a := range n {
		for b := range n {
			l = append(l, api.Pair{A: a, B: b})
		}
	}
	return l
}

// alike doesn't ask Same, which is tested itself.
func alike(a, b api.Obj) bool {
	return slices.Equal(a.Labels, b.Labels) && slices.Equal(a.Pairs, b.Pairs)
}

func isZero(o api.Obj) bool { return len(o.Labels) == 0 && len(o.Pairs) == 0 }

// deepCopy doesn't ask Copy, which is tested itself.
func deepCopy(o api.Obj) api.Obj {
	return api.Obj{Labels: append([]string{}, o.Labels...), Pairs: append([]api.Pair{}, o.Pairs...)}
}

// expect: what Check, Is and Rel say of o.
func expect(t *testing.T, what string, o api.Obj, want api.Errno) {
	t.Helper()
	before := deepCopy(o)
	if got := Check(o); got != want {
		t.Errorf("P4.1: %s: Check is %d, want %d", what, got, want)
	}
	if got := Is(o); got != (want == api.OK) {
		t.Errorf("P4.1: %s: Is is %v", what, got)
	}
	r := Rel(o)
	if r == nil {
		t.Fatalf("P4.1: %s: Rel is nil", what)
	}
	if want == api.OK {
		if r.Len() != len(o.Labels) || !slices.Equal(r.Pairs(), o.Pairs) {
			t.Errorf("P4.1: %s: Rel is of %d, with %v", what, r.Len(), r.Pairs())
		}
	} else if r.Len() != 0 {
		t.Errorf("P4.1: %s: Rel is of %d", what, r.Len())
	}
	if !alike(o, before) {
		t.Errorf("P4.1: %s: what was handed in is changed", what)
	}
}

func TestCheckLabels(t *testing.T) { // P4.1
	for n, want := range map[int]api.Errno{0: api.OK, 1: api.OK, 39: api.OK, 40: api.OK, 41: api.ErrLarge, 42: api.ErrLarge, 200: api.ErrLarge, 201: api.ErrLarge, 5000: api.ErrLarge} {
		expect(t, "so many labels", objOf(make([]string, n)), want)
	}
	expect(t, "empty lists", api.Obj{Labels: []string{}, Pairs: []api.Pair{}}, api.OK)
	expect(t, "the longest", objOf([]string{"a", longest, ""}), api.OK)
	expect(t, "one byte more", objOf([]string{tooLong}), api.ErrForm)
	expect(t, "one byte more, last", objOf([]string{"a", "b", tooLong}), api.ErrForm)
	expect(t, "bytes count, not runes", objOf([]string{strings.Repeat("\u00e9", 30)}), api.OK)
	expect(t, "bytes count, not runes", objOf([]string{strings.Repeat("\u00e9", 31)}), api.ErrForm)
	expect(t, "any bytes", objOf([]string{"\x00\n\xff", "\n"}, 1, 0), api.OK)
	expect(t, "alike labels", objOf([]string{"a", "a"}, 0, 1), api.OK)
	expect(t, "the longest, as many as may be", objOf(slices.Repeat([]string{longest}, 40)), api.OK)
}

func TestCheckNamesTheFirst(t *testing.T) { // P4.1
	many := letters(41)
	many[0] = tooLong
	expect(t, "too large ahead of a label", objOf(many), api.ErrLarge)
	expect(t, "too large ahead of a pair", objOf(letters(41), -1, 0), api.ErrLarge)
	expect(t, "too large ahead of what doesn't rise", objOf(letters(41), 1, 0, 0, 1), api.ErrLarge)
}

func TestCheckPairs(t *testing.T) { // P4.1
	abc := letters(3)
	cases := []struct {
		what string
		o    api.Obj
		want api.Errno
	}{
		{"one pair", objOf(abc, 2, 0), api.OK},
		{"of itself", objOf(abc, 1, 1), api.OK},
		{"rising by B", objOf(abc, 0, 1, 0, 2), api.OK},
		{"rising by A", objOf(abc, 0, 2, 1, 2), api.OK},
		{"B falls while A rises", objOf(letters(4), 0, 3, 1, 2), api.OK},
		{"a row", objOf(abc, 0, 1, 0, 2, 1, 2), api.OK},
		{"a row against the numbers", objOf(abc, 1, 0, 2, 0, 2, 1), api.OK},
		{"a circle", objOf(abc, 0, 0, 0, 2, 2, 0, 2, 2), api.OK},
		{"into a circle and out", objOf(letters(3), 0, 1, 0, 2, 1, 1, 1, 2), api.OK},
		{"of no elements", objOf(nil, 0, 0), api.ErrForm},
		{"A past the last", objOf(abc, 3, 0), api.ErrForm},
		{"B past the last", objOf(abc, 0, 3), api.ErrForm},
		{"A ahead of the first", objOf(abc, -1, 0), api.ErrForm},
		{"B ahead of the first", objOf(abc, 0, -1), api.ErrForm},
		{"past the last behind others", objOf(abc, 0, 1, 2, 3), api.ErrForm},
		{"twice", objOf(abc, 0, 1, 0, 1), api.ErrForm},
		{"twice, of itself", objOf(abc, 1, 1, 1, 1), api.ErrForm},
		{"twice, apart", objOf(abc, 0, 1, 0, 2, 0, 1), api.ErrForm},
		{"B falls", objOf(abc, 0, 2, 0, 1), api.ErrForm},
		{"A falls", objOf(abc, 1, 2, 0, 2), api.ErrForm},
		{"A falls, B rises", objOf(abc, 1, 0, 0, 1), api.ErrForm},
		{"the last two fall", objOf(abc, 0, 1, 0, 2, 2, 1, 1, 2), api.ErrForm},
		{"a way of two steps", objOf(abc, 0, 1, 1, 2), api.ErrForm},
		{"a circle without itself", objOf(abc, 0, 1, 1, 0), api.ErrForm},
		{"all but one of a circle", objOf(abc, 0, 0, 0, 1, 1, 0), api.ErrForm},
		{"a row without its last", objOf(letters(4), 0, 1, 0, 2, 1, 2, 1, 3, 2, 3), api.ErrForm},
	}
	for _, c := range cases {
		expect(t, c.what, c.o, c.want)
	}
	for _, x := range wrong {
		for _, p := range []api.Pair{{A: x}, {B: x}, {A: x, B: x}} {
			expect(t, "no element", api.Obj{Labels: letters(40), Pairs: []api.Pair{p}}, api.ErrForm)
		}
	}
}

// TestGreatest: the greatest objects, and each of them without one pair or with one twice.
func TestGreatest(t *testing.T) { // P4.1
	for _, all := range [][]api.Pair{row(40), circle(40)} {
		expect(t, "the greatest", api.Obj{Labels: letters(40), Pairs: all}, api.OK)
		expect(t, "an element less", api.Obj{Labels: letters(39), Pairs: all}, api.ErrForm)
		expect(t, "an element more", api.Obj{Labels: letters(41), Pairs: all}, api.ErrLarge)
		expect(t, "all twice", api.Obj{Labels: letters(40), Pairs: append(slices.Clone(all), all...)}, api.ErrForm)
		for _, i := range []int{0, 1, len(all) / 2, len(all) - 1} {
			twice := slices.Insert(slices.Clone(all), i, all[i])
			expect(t, "one twice", api.Obj{Labels: letters(40), Pairs: twice}, api.ErrForm)
		}
	}
	for i := range circle(40) {
		less := slices.Delete(circle(40), i, i+1)
		expect(t, "a circle without one", api.Obj{Labels: letters(40), Pairs: less}, api.ErrForm)
	}
}

func TestRelStandsAlone(t *testing.T) { // P4.1
	o := objOf(letters(3), 0, 1)
	r, other := Rel(o), Rel(o)
	r.Add(2, 2)
	o.Pairs[0] = api.Pair{A: 1, B: 0}
	if !slices.Equal(r.Pairs(), pairsOf(0, 1, 2, 2)) || !slices.Equal(other.Pairs(), pairsOf(0, 1)) {
		t.Errorf("relations are touched: %v, %v", r.Pairs(), other.Pairs())
	}
	if !slices.Equal(o.Pairs, pairsOf(1, 0)) {
		t.Errorf("the object is touched: %v", o.Pairs)
	}
}

func TestMake(t *testing.T) { // P4.1
	many := letters(41)
	many[40] = tooLong
	cases := []struct {
		what   string
		labels []string
		r      *rel.Rel
		err    api.Errno
		want   []api.Pair
	}{
		{"the example", []string{"a", "b"}, relOf(2, pairsOf(0, 1)), api.OK, pairsOf(0, 1)},
		{"nothing", nil, nil, api.OK, nil},
		{"empty lists", []string{}, rel.New(0), api.OK, nil},
		{"nobody ahead", letters(2), rel.New(2), api.OK, nil},
		{"closed", letters(3), relOf(3, pairsOf(1, 2, 0, 1)), api.OK, pairsOf(0, 1, 0, 2, 1, 2)},
		{"a circle", letters(2), relOf(2, pairsOf(1, 0, 0, 1)), api.OK, circle(2)},
		{"the longest", []string{longest}, rel.New(1), api.OK, nil},
		{"the greatest", letters(40), relOf(40, row(40)), api.OK, row(40)},
		{"one label more", letters(41), rel.New(41), api.ErrLarge, nil},
		{"too large ahead of a label", many, rel.New(41), api.ErrLarge, nil},
		{"too large ahead of another number", letters(41), rel.New(3), api.ErrLarge, nil},
		{"too large ahead of nil", letters(41), nil, api.ErrLarge, nil},
		{"a label", []string{"a", tooLong}, relOf(2, pairsOf(0, 1)), api.ErrForm, nil},
		{"one element less", letters(2), relOf(1, pairsOf(0, 0)), api.ErrForm, nil},
		{"one element more", letters(2), relOf(3, pairsOf(0, 1)), api.ErrForm, nil},
		{"nil of one label", letters(1), nil, api.ErrForm, nil},
		{"elements without labels", nil, rel.New(1), api.ErrForm, nil},
		{"far more elements", letters(40), rel.New(200), api.ErrForm, nil},
	}
	for _, c := range cases {
		before := slices.Clone(c.labels)
		o, err := Make(c.labels, c.r)
		if err != c.err {
			t.Errorf("P4.1: %s: error %d, want %d", c.what, err, c.err)
		}
		if err != api.OK && !isZero(o) {
			t.Errorf("P4.1: %s: beside an error: %v", c.what, o)
		}
		if c.err == api.OK && !alike(o, api.Obj{Labels: c.labels, Pairs: c.want}) {
			t.Errorf("P4.1: %s: %v", c.what, o)
		}
		if err == api.OK {
			expect(t, c.what, o, api.OK)
		}
		if !slices.Equal(c.labels, before) {
			t.Errorf("P4.1: %s: what was handed in is changed", c.what)
		}
	}
}

func TestMakeStandsAlone(t *testing.T) { // P4.1
	room := letters(4)
	r := relOf(2, pairsOf(0, 1, 1, 0))
	first, _ := Make(room[:2], r)
	second, _ := Make(room[:2], r)
	if !slices.Equal(r.Pairs(), pairsOf(0, 1, 1, 0)) {
		t.Errorf("P4.1: Make closes what was handed in: %v", r.Pairs())
	}
	spoil(first)
	room[0] = "spoilt"
	r.Add(0, 0)
	if !alike(second, api.Obj{Labels: letters(2), Pairs: circle(2)}) {
		t.Errorf("P4.1: an answer is touched: %v", second)
	}
	if !slices.Equal(room, []string{"spoilt", "b", "c", "d"}) {
		t.Errorf("P4.1: what was handed in is touched: %v", room)
	}
}

// spoil writes over all of o's lists, their spare room too.
func spoil(o api.Obj) {
	for i := range o.Labels[:cap(o.Labels)] {
		o.Labels[:cap(o.Labels)][i] = "spoilt"
	}
	for i := range o.Pairs[:cap(o.Pairs)] {
		o.Pairs[:cap(o.Pairs)][i] = api.Pair{A: -7, B: -7}
	}
}

func TestSame(t *testing.T) { // P4.1
	groups := [][]api.Obj{
		{{}, {Labels: []string{}, Pairs: []api.Pair{}}},
		{objOf([]string{""})},
		{objOf([]string{"", ""})},
		{objOf([]string{"a", "b"}), {Labels: []string{"a", "b"}, Pairs: []api.Pair{}}},
		{objOf([]string{"b", "a"})},
		{objOf([]string{"a"})},
		{objOf([]string{"ab", ""})},
		{objOf([]string{"a", "b"}, 0, 1), objOf([]string{"a", "b"}, 0, 1)},
		{objOf([]string{"a", "b"}, 1, 0)},
		{objOf([]string{"a", "b"}, 0, 1, 1, 1)},
		{objOf([]string{"a", "c"}, 0, 1)},
		{objOf([]string{"a", "b", "c"}, 0, 1)},
		// What is no object is held against another one all the same.
		{objOf(nil, 0, 1), objOf(nil, 0, 1)},
		{objOf(nil, 0, -1)},
		{objOf([]string{tooLong}), objOf([]string{tooLong})},
		{objOf([]string{"a", "b"}, 1, 1, 0, 1)},
		{objOf([]string{"a", "b"}, 0, 1, 0, 1)},
		{objOf(letters(41)), objOf(letters(41))},
	}
	for i, group := range groups {
		for j, others := range groups {
			for _, a := range group {
				for _, b := range others {
					if Same(a, b) != (i == j) {
						t.Errorf("P4.1: Same of %v and %v is %v", a, b, i != j)
					}
				}
			}
		}
	}
}

func TestCopy(t *testing.T) { // P4.1
	for _, o := range []api.Obj{
		{},
		{Labels: []string{}, Pairs: []api.Pair{}},
		objOf([]string{"a", ""}),
		objOf([]string{"a", "b"}, 0, 1),
		{Labels: letters(40), Pairs: circle(40)},
		objOf(nil, 3, -1, 2, 2),
		objOf([]string{tooLong}, 0, 0, 0, 0),
		{Labels: letters(100), Pairs: row(30)},
	} {
		before := deepCopy(o)
		c, second := Copy(o), Copy(o)
		if !alike(c, before) || !alike(second, before) {
			t.Errorf("P4.1: a copy of %v is %v", before, c)
		}
		spoil(c)
		if !alike(o, before) || !alike(second, before) {
			t.Errorf("P4.1: of %v a copy's memory is another's too", before)
		}
		spoil(o)
		if !alike(second, before) {
			t.Errorf("P4.1: a copy of %v keeps what was handed in", before)
		}
	}
}

func TestCopyLeavesTheSpareRoom(t *testing.T) { // P4.1
	labels, pairs := letters(4), row(3)
	for _, n := range []int{0, 1, 2} {
		c := Copy(api.Obj{Labels: labels[:n], Pairs: pairs[:n]})
		_, _ = append(c.Labels, "spoilt"), append(c.Pairs, api.Pair{A: -7})
		spoil(c)
	}
	if !slices.Equal(labels, letters(4)) || !slices.Equal(pairs, row(3)) {
		t.Errorf("P4.1: spare room is touched: %v, %v", labels, pairs)
	}
}

func TestNeighboursAreLeftAndGoneThroughAgain(t *testing.T) {
	every := neighbours(pairsOf(0, 1, 0, 2, 1, 2))
	var seen []api.Pair
	for p, next := range every {
		seen = append(seen, p, next)
		for q := range every {
			seen = append(seen, q)
			break
		}
		if p.B == 2 {
			break
		}
	}
	if want := pairsOf(0, 1, 0, 2, 0, 1, 0, 2, 1, 2, 0, 1); !slices.Equal(seen, want) {
		t.Errorf("nested: %v, want %v", seen, want)
	}
	for _, l := range [][]api.Pair{nil, {}, pairsOf(1, 2)} {
		for p, next := range neighbours(l) {
			t.Errorf("%v has neighbours %v, %v", l, p, next)
		}
	}
}

// TestTellsAllOfItself plays random lists against the promises' words, and makes each object again from what it tells.
func TestTellsAllOfItself(t *testing.T) { // P4.1, P4.2
	random := rand.New(rand.NewSource(4))
	objects := 0
	for range 3000 {
		n := []int{1, 2, 3, 5, 40}[random.Intn(5)]
		o := api.Obj{Labels: letters(n)}
		for range random.Intn(4) {
			o.Pairs = append(o.Pairs, api.Pair{A: random.Intn(n), B: random.Intn(n)})
		}
		want := api.ErrForm
		if isRising(o.Pairs) && isTransitive(o.Pairs) {
			want = api.OK
			objects++
		}
		expect(t, "random", o, want)
		made, err := Make(o.Labels, relOf(n, o.Pairs))
		if err != api.OK || !Is(made) {
			t.Fatalf("P4.2: made %v of %v, error %d", made, o, err)
		}
		again, err := Make(made.Labels, Rel(made))
		if err != api.OK || !Same(made, again) {
			t.Fatalf("P4.2: %v made again is %v, error %d", made, again, err)
		}
		if Same(made, o) != (want == api.OK) {
			t.Fatalf("P4.2: %v, made of its relation: %v", o, made)
		}
	}
	if objects < 300 || objects > 2700 {
		t.Errorf("%d of 3000 are objects: too few of one kind", objects)
	}
}

func isRising(l []api.Pair) bool {
	for i := range l {
		for j := range i {
			if l[j].A > l[i].A || l[j].A == l[i].A && l[j].B >= l[i].B {
				return false
			}
		}
	}
	return true
}

func isTransitive(l []api.Pair) bool {
	for _, p := range l {
		for _, q := range l {
			if p.B == q.A && !slices.Contains(l, api.Pair{A: p.A, B: q.B}) {
				return false
			}
		}
	}
	return true
}
