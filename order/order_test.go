package order

import (
	"math/rand"
	"slices"
	"testing"

	"cento/api"
	"cento/rel"
)

// pairsOf: 0, 1, 1, 2 is 0 ahead of 1, 1 ahead of 2.
func pairsOf(numbers ...int) []api.Pair {
	var l []api.Pair
	for i := 0; i < len(numbers); i += 2 {
		l = append(l, api.Pair{A: numbers[i], B: numbers[i+1]})
	}
	return l
}

func relOf(n int, l []api.Pair) *rel.Rel {
	r := rel.New(n)
	for _, p := range l {
		r.Add(p.A, p.B)
	}
	return r
}

func upTo(n int) []int {
	l := make([]int, n)
	for a := range l {
		l[a] = a
	}
	return l
}

func alone(n int) [][]int {
	var l [][]int
	for a := range n {
		l = append(l, []int{a})
	}
	return l
}

// answers: what all calls of the face say of one relation.
type answers struct {
	circles [][]int
	of      []int
	sort    []int
	reduce  []api.Pair
	order   bool
	total   bool
}

func expect(t *testing.T, what string, r *rel.Rel, want answers) {
	t.Helper()
	if got := Circles(r); !slices.EqualFunc(got, want.circles, slices.Equal[[]int]) {
		t.Errorf("P3.1: %s: Circles is %v, want %v", what, got, want.circles)
	}
	if got := Of(r); !slices.Equal(got, want.of) {
		t.Errorf("P3.1: %s: Of is %v, want %v", what, got, want.of)
	}
	if got := Sort(r); !slices.Equal(got, want.sort) {
		t.Errorf("P3.1: %s: Sort is %v, want %v", what, got, want.sort)
	}
	if got := Reduce(r); !slices.Equal(got, want.reduce) {
		t.Errorf("P3.2: %s: Reduce is %v, want %v", what, got, want.reduce)
	}
	if got := IsOrder(r); got != want.order {
		t.Errorf("P3.2: %s: IsOrder is %v", what, got)
	}
	if got := IsTotal(r); got != want.total {
		t.Errorf("P3.2: %s: IsTotal is %v", what, got)
	}
}

func TestAnswers(t *testing.T) { // P3.1, P3.2
	cases := []struct {
		what string
		n    int
		l    []api.Pair
		want answers
	}{
		{"the example", 3, pairsOf(0, 1, 1, 0, 1, 2),
			answers{[][]int{{0, 1}, {2}}, []int{0, 0, 1}, []int{0, 1, 2}, pairsOf(0, 2), false, false}},
		{"no elements", 0, nil, answers{order: true, total: true}},
		{"one", 1, nil, answers{alone(1), []int{0}, []int{0}, nil, true, true}},
		{"one ahead of itself", 1, pairsOf(0, 0), answers{alone(1), []int{0}, []int{0}, nil, false, false}},
		{"two apart", 2, nil, answers{alone(2), []int{0, 1}, []int{0, 1}, nil, true, false}},
		{"two in a row", 2, pairsOf(1, 0), answers{alone(2), []int{0, 1}, []int{1, 0}, pairsOf(1, 0), true, true}},
		{"two in a circle", 2, pairsOf(1, 0, 0, 1), answers{[][]int{{0, 1}}, []int{0, 0}, []int{0, 1}, nil, false, false}},
		{"a row of which one is ahead of itself", 3, pairsOf(0, 1, 1, 2, 1, 1),
			answers{alone(3), []int{0, 1, 2}, []int{0, 1, 2}, pairsOf(0, 1, 1, 2), false, false}},
		{"a row that only the closure makes total", 4, pairsOf(2, 0, 0, 3, 3, 1),
			answers{alone(4), []int{0, 1, 2, 3}, []int{2, 0, 3, 1}, pairsOf(0, 3, 2, 0, 3, 1), true, true}},
		{"all pairs of a row", 3, pairsOf(2, 1, 2, 0, 1, 0),
			answers{alone(3), []int{0, 1, 2}, []int{2, 1, 0}, pairsOf(1, 0, 2, 1), true, true}},
		{"two rows, all but one pair", 3, pairsOf(0, 1, 0, 2),
			answers{alone(3), []int{0, 1, 2}, []int{0, 1, 2}, pairsOf(0, 1, 0, 2), true, false}},
		{"four around", 4, pairsOf(0, 1, 0, 2, 1, 3, 2, 3, 0, 3),
			answers{alone(4), []int{0, 1, 2, 3}, []int{0, 1, 2, 3}, pairsOf(0, 1, 0, 2, 1, 3, 2, 3), true, false}},
		{"a circle that only the closure has", 4, pairsOf(3, 1, 1, 2, 2, 3),
			answers{[][]int{{0}, {1, 2, 3}}, []int{0, 1, 1, 1}, []int{0, 1, 2, 3}, nil, false, false}},
		{"two circles that cross, in a row", 5, pairsOf(4, 0, 0, 4, 1, 3, 3, 1, 3, 4, 2, 1),
			answers{[][]int{{0, 4}, {1, 3}, {2}}, []int{0, 1, 2, 1, 0}, []int{2, 1, 3, 0, 4}, pairsOf(1, 0, 2, 1), false, false}},
		{"into a circle and out at others", 4, pairsOf(3, 2, 2, 1, 1, 2, 1, 0),
			answers{[][]int{{0}, {1, 2}, {3}}, []int{0, 1, 1, 2}, []int{3, 1, 2, 0}, pairsOf(1, 0, 3, 1), false, false}},
		{"a class comes free by its least, not its greatest", 5, pairsOf(1, 4, 4, 1, 3, 0),
			answers{[][]int{{0}, {1, 4}, {2}, {3}}, []int{0, 1, 2, 3, 1}, []int{1, 4, 2, 3, 0}, pairsOf(3, 0), false, false}},
		{"the least that comes free goes first", 5, pairsOf(2, 0, 3, 1),
			answers{alone(5), []int{0, 1, 2, 3, 4}, []int{2, 0, 3, 1, 4}, pairsOf(2, 0, 3, 1), true, false}},
	}
	for _, c := range cases {
		r := relOf(c.n, c.l)
		was := r.Pairs()
		expect(t, c.what, r, c.want)
		expect(t, c.what+", closed", r.Closure(), c.want)
		if !slices.Equal(r.Pairs(), was) {
			t.Errorf("%s: the relation is changed to %v", c.what, r.Pairs())
		}
	}
}

func TestNoRelation(t *testing.T) { // P3.1, P3.2
	expect(t, "nil", nil, answers{order: true, total: true})
}

// TestGreatest: the calls at the most elements that a relation may have.
func TestGreatest(t *testing.T) { // P3.1, P3.2
	const n = 200
	var falling, around []api.Pair
	for a := range n - 1 {
		falling = append(falling, api.Pair{A: a + 1, B: a})
	}
	around = append(slices.Clone(falling), api.Pair{A: 0, B: n - 1})
	down := upTo(n)
	slices.Reverse(down)
	expect(t, "nobody", rel.New(n), answers{alone(n), upTo(n), upTo(n), nil, true, false})
	expect(t, "a row", relOf(n, falling), answers{alone(n), upTo(n), down, falling, true, true})
	expect(t, "a circle", relOf(n, around), answers{[][]int{upTo(n)}, make([]int, n), upTo(n), nil, false, false})

	evens, odds := []int{}, []int{}
	of := make([]int, n)
	var two []api.Pair
	for a := range n {
		two = append(two, api.Pair{A: a, B: (a + 2) % n})
		of[a] = a % 2
		if a%2 == 0 {
			evens = append(evens, a)
		} else {
			odds = append(odds, a)
		}
	}
	two = append(two, api.Pair{A: 101, B: 100})
	expect(t, "two circles", relOf(n, two), answers{[][]int{evens, odds}, of, slices.Concat(odds, evens), pairsOf(1, 0), false, false})
}

func TestAnswersAreNewMemory(t *testing.T) { // P3.1, P3.2
	r := relOf(6, pairsOf(0, 2, 2, 0, 2, 4, 4, 0, 1, 3, 3, 1, 5, 0))
	want := answers{[][]int{{0, 2, 4}, {1, 3}, {5}}, []int{0, 1, 0, 1, 0, 2}, []int{1, 3, 5, 0, 2, 4}, pairsOf(5, 0), false, false}
	circles, of, sorted, reduced := Circles(r), Of(r), Sort(r), Reduce(r)
	later := Circles(r)
	for k, class := range circles {
		full := class[:cap(class)]
		for i := range full {
			full[i] = -1 - k
		}
	}
	for k, class := range circles {
		for _, a := range class {
			if a != -1-k {
				t.Errorf("class %d shares memory with another one: %v", k, class)
			}
		}
	}
	if !slices.EqualFunc(later, want.circles, slices.Equal[[]int]) {
		t.Errorf("an answer is touched by another one: %v", later)
	}
	clear(of[:cap(of)])
	clear(sorted[:cap(sorted)])
	clear(reduced[:cap(reduced)])
	expect(t, "afterwards", r, want)
}

// TestByHand plays random relations against plain ways of telling the same.
func TestByHand(t *testing.T) { // P3.1, P3.2, P3.3
	random := rand.New(rand.NewSource(3))
	for range 400 {
		n := 1 + random.Intn(7)
		r := rel.New(n)
		for range random.Intn(2 * n) {
			a, b := random.Intn(n), random.Intn(n)
			if random.Intn(3) > 0 { // fewer circles
				a, b = max(a, b), min(a, b)
			}
			r.Add(a, b)
		}
		was := r.Pairs()
		c := r.Closure()
		least := leastOf(c)
		checkClasses(t, r, least)
		strict := strictPairs(c, least)
		checkReduce(t, r, strict)
		if want := firstRow(least, strict); !slices.Equal(Sort(r), want) {
			t.Fatalf("P3.1: Sort of %v is %v, want %v", was, Sort(r), want)
		}
		checkRow(t, r)
		if !slices.Equal(r.Pairs(), was) {
			t.Fatalf("the relation %v is changed", was)
		}
	}
}

// leastOf: of each element the least one of its class.
func leastOf(c *rel.Rel) []int {
	least := upTo(c.Len())
	for a := range least {
		for b := range a {
			if c.Has(a, b) && c.Has(b, a) {
				least[a] = min(least[a], b)
			}
		}
	}
	return least
}

func checkClasses(t *testing.T, r *rel.Rel, least []int) {
	t.Helper()
	circles, of := Circles(r), Of(r)
	if len(of) != len(least) {
		t.Fatalf("P3.1: Of of %v is %v", r.Pairs(), of)
	}
	seen := 0
	for k, class := range circles {
		seen += len(class)
		if !slices.IsSorted(class) || k > 0 && circles[k-1][0] >= class[0] {
			t.Fatalf("P3.1: Circles of %v is %v", r.Pairs(), circles)
		}
		for _, a := range class {
			if least[a] != class[0] || of[a] != k {
				t.Fatalf("P3.1: Circles of %v is %v, Of %v", r.Pairs(), circles, of)
			}
		}
	}
	if seen != len(least) {
		t.Fatalf("P3.1: Circles of %v is %v", r.Pairs(), circles)
	}
}

// strictPairs: which classes, told by their least elements, are ahead of which others.
func strictPairs(c *rel.Rel, least []int) []api.Pair {
	s := rel.New(c.Len())
	for _, p := range c.Pairs() {
		if least[p.A] != least[p.B] {
			s.Add(least[p.A], least[p.B])
		}
	}
	return s.Pairs()
}

// checkReduce: a pair stays just when the others don't lead to it.
func checkReduce(t *testing.T, r *rel.Rel, strict []api.Pair) {
	t.Helper()
	var want []api.Pair
	for i, p := range strict {
		others := slices.Delete(slices.Clone(strict), i, i+1)
		if !relOf(r.Len(), others).Closure().Has(p.A, p.B) {
			want = append(want, p)
		}
	}
	got := Reduce(r)
	if !slices.Equal(got, want) {
		t.Fatalf("P3.2: Reduce of %v is %v, want %v", r.Pairs(), got, want)
	}
	if back := relOf(r.Len(), got).Closure().Pairs(); !slices.Equal(back, strict) {
		t.Fatalf("P3.2: Reduce of %v leads to %v, not to %v", r.Pairs(), back, strict)
	}
}

// firstRow: of all rows of classes that go against no pair the first one, by trying them all.
func firstRow(least []int, strict []api.Pair) []int {
	var heads []int
	for a := range least {
		if least[a] == a {
			heads = append(heads, a)
		}
	}
	var row []int
	var try func(used []int) bool
	try = func(used []int) bool {
		if len(used) == len(heads) {
			row = slices.Clone(used)
			return !slices.ContainsFunc(strict, func(p api.Pair) bool {
				return slices.Index(used, p.A) > slices.Index(used, p.B)
			})
		}
		for _, a := range heads {
			if !slices.Contains(used, a) && try(append(slices.Clone(used), a)) {
				return true
			}
		}
		return false
	}
	try(nil)
	var all []int
	for _, head := range row {
		for a := range least {
			if least[a] == head {
				all = append(all, a)
			}
		}
	}
	return all
}

// checkRow: what can be put in a row is, and just what is one row alone is total.
func checkRow(t *testing.T, r *rel.Rel) {
	t.Helper()
	c, row := r.Closure(), Sort(r)
	against, missing := false, false
	for i, b := range row {
		for _, a := range row[:i] {
			against = against || c.Has(b, a)
			missing = missing || !c.Has(a, b)
		}
		against = against || c.Has(b, b)
	}
	if IsOrder(r) == against || IsTotal(r) != (!against && !missing) {
		t.Fatalf("P3.3: %v, in a row %v: IsOrder %v, IsTotal %v", r.Pairs(), row, IsOrder(r), IsTotal(r))
	}
}
