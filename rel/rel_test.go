package rel

import (
	"cmp"
	"math"
	"math/rand"
	"slices"
	"testing"

	"cento/api"
)

// wrong: numbers that are an element of no relation.
var wrong = []int{math.MinInt, math.MinInt32, -64, -1, 200, 201, 1000, 1 << 32, math.MaxInt}

// lengths: the least, around the ends of words, the greatest.
var lengths = []int{0, 1, 2, 5, 63, 64, 65, 128, 199, 200}

// pairsOf: 0, 1, 1, 2 is 0 ahead of 1, 1 ahead of 2.
func pairsOf(numbers ...int) []api.Pair {
	var l []api.Pair
	for i := 0; i < len(numbers); i += 2 {
		l = append(l, api.Pair{A: numbers[i], B: numbers[i+1]})
	}
	return l
}

func relOf(n int, numbers ...int) *Rel {
	r := New(n)
	for _, p := range pairsOf(numbers...) {
		r.Add(p.A, p.B)
	}
	return r
}

func expect(t *testing.T, what string, r *Rel, n int, want ...int) {
	t.Helper()
	expectPairs(t, what, r, n, pairsOf(want...))
}

func expectPairs(t *testing.T, what string, r *Rel, n int, want []api.Pair) {
	t.Helper()
	if r.Len() != n {
		t.Errorf("%s: Len is %d, want %d", what, r.Len(), n)
	}
	if got := r.Pairs(); !slices.Equal(got, want) {
		t.Errorf("%s: Pairs is %v, want %v", what, got, want)
	}
	is := map[api.Pair]bool{}
	for _, p := range want {
		is[p] = true
	}
	for a := -1; a <= n; a++ {
		for b := -1; b <= n; b++ {
			if r.Has(a, b) != is[api.Pair{A: a, B: b}] {
				t.Errorf("%s: Has(%d, %d) is %v", what, a, b, r.Has(a, b))
			}
		}
	}
}

func TestNewIsHeldAndEmpty(t *testing.T) { // P2.1
	for n, want := range map[int]int{math.MinInt: 0, -1: 0, 0: 0, 1: 1, 65: 65, 199: 199, 200: 200, 201: 200, 1000: 200, math.MaxInt: 200} {
		expect(t, "New", New(n), want)
	}
}

func TestOf(t *testing.T) { // P2.1
	cases := []struct {
		what string
		n    int
		l    []api.Pair
		err  api.Errno
		want []api.Pair
	}{
		{"nothing", 0, nil, api.OK, nil},
		{"an empty list", 3, []api.Pair{}, api.OK, nil},
		{"sorted", 3, pairsOf(2, 0, 0, 2, 0, 1), api.OK, pairsOf(0, 1, 0, 2, 2, 0)},
		{"not closed", 3, pairsOf(0, 1, 1, 2), api.OK, pairsOf(0, 1, 1, 2)},
		{"twice, of itself", 2, pairsOf(1, 1, 1, 1), api.OK, pairsOf(1, 1)},
		{"the greatest", 200, pairsOf(199, 0, 199, 199), api.OK, pairsOf(199, 0, 199, 199)},
		{"one more", 201, nil, api.ErrLarge, nil},
		{"less than none", -1, nil, api.ErrLarge, nil},
		{"least", math.MinInt, nil, api.ErrLarge, nil},
		{"greatest number", math.MaxInt, nil, api.ErrLarge, nil},
		{"too large ahead of ill-formed", 201, pairsOf(-1, 0), api.ErrLarge, nil},
		{"of no elements", 0, pairsOf(0, 0), api.ErrForm, nil},
		{"A past the last", 2, pairsOf(0, 1, 2, 0), api.ErrForm, nil},
		{"B past the last", 2, pairsOf(0, 1, 0, 2), api.ErrForm, nil},
		{"A ahead of the first", 2, pairsOf(-1, 0, 0, 1), api.ErrForm, nil},
		{"B ahead of the first", 2, pairsOf(0, -1), api.ErrForm, nil},
	}
	for _, c := range cases {
		before := slices.Clone(c.l)
		r, err := Of(c.n, c.l)
		if err != c.err || (r == nil) != (err != api.OK) {
			t.Errorf("%s: error %d, want %d; relation %v", c.what, err, c.err, r)
			continue
		}
		if !slices.Equal(c.l, before) {
			t.Errorf("%s: what was handed in is changed", c.what)
		}
		if err == api.OK {
			expectPairs(t, c.what, r, c.n, c.want)
		}
	}
	for _, x := range wrong {
		for _, p := range []api.Pair{{A: x}, {B: x}, {A: x, B: x}} {
			if r, err := Of(200, []api.Pair{p}); r != nil || err != api.ErrForm {
				t.Errorf("%v: error %d", p, err)
			}
		}
	}
}

func TestOfKeepsNothing(t *testing.T) { // P2.1
	l := pairsOf(0, 1)
	r, _ := Of(2, l)
	l[0] = api.Pair{A: 1, B: 0}
	expect(t, "the list is changed", r, 2, 0, 1)
}

func TestAdd(t *testing.T) { // P2.1
	r := New(70)
	for _, p := range pairsOf(1, 2, 0, 1, 69, 64, 63, 63, 0, 69) {
		if !r.Add(p.A, p.B) || !r.Has(p.A, p.B) {
			t.Errorf("%v isn't told", p)
		}
		if r.Add(p.A, p.B) {
			t.Errorf("%v is told twice", p)
		}
	}
	expect(t, "nothing more", r, 70, 0, 1, 0, 69, 1, 2, 63, 63, 69, 64)
}

func TestNoElement(t *testing.T) { // P2.1, P2.2
	for _, n := range lengths {
		r := relOf(n, 0, 1, 1, 0, 1, 4, 4, 2)
		before := r.Pairs()
		for _, x := range append([]int{n, n + 1}, wrong...) {
			for _, p := range []api.Pair{{A: x, B: 0}, {A: 0, B: x}, {A: x, B: x}} {
				if r.Add(p.A, p.B) || r.Join(p.A, p.B) || r.Has(p.A, p.B) {
					t.Errorf("of %d: %v is told", n, p)
				}
			}
		}
		if !slices.Equal(r.Pairs(), before) {
			t.Errorf("of %d: changed to %v", n, r.Pairs())
		}
	}
}

func TestPairsIsNewMemory(t *testing.T) { // P2.1
	r := relOf(5, 0, 1, 3, 4)
	first, second := r.Pairs(), r.Pairs()
	first[0], first[1] = api.Pair{A: 2, B: 2}, api.Pair{}
	_ = append(first[:1], api.Pair{A: 1, B: 1})
	r.Add(2, 3)
	if !slices.Equal(second, pairsOf(0, 1, 3, 4)) {
		t.Errorf("an answer is touched: %v", second)
	}
	expect(t, "relation", r, 5, 0, 1, 2, 3, 3, 4)
}

func TestEachIsLeftAndGoneThroughAgain(t *testing.T) {
	r := relOf(3, 0, 1, 1, 2, 2, 0)
	var seen []api.Pair
	for p := range r.each() {
		if p.A == 2 {
			break
		}
		for q := range r.each() {
			seen = append(seen, p, q)
		}
	}
	if want := pairsOf(0, 1, 0, 1, 0, 1, 1, 2, 0, 1, 2, 0, 1, 2, 0, 1, 1, 2, 1, 2, 1, 2, 2, 0); !slices.Equal(seen, want) {
		t.Errorf("nested: %v", seen)
	}
	every := r.each()
	r.Add(1, 0)
	if got := slices.Collect(every); !slices.Equal(got, pairsOf(0, 1, 1, 0, 1, 2, 2, 0)) {
		t.Errorf("it doesn't give what the relation holds now: %v", got)
	}
}

func TestCopyStandsAlone(t *testing.T) { // P2.1
	for _, n := range []int{2, 64, 200} {
		r := relOf(n, 0, 1)
		c := r.Copy()
		c.Add(1, 1)
		expect(t, "relation", r, n, 0, 1)
		r.Add(0, 0)
		expect(t, "copy", c, n, 0, 1, 1, 1)
	}
	expect(t, "copy of none", New(0).Copy(), 0)
}

func TestClosure(t *testing.T) { // P2.2
	cases := []struct {
		what       string
		r          *Rel
		transitive bool
		want       []int
	}{
		{"the example", relOf(3, 0, 1, 1, 2), false, []int{0, 1, 0, 2, 1, 2}},
		{"nobody", New(3), true, nil},
		{"no elements", New(0), true, nil},
		{"one step", relOf(3, 2, 0), true, []int{2, 0}},
		{"apart", relOf(4, 0, 1, 3, 2), true, []int{0, 1, 3, 2}},
		{"against the numbers", relOf(4, 3, 2, 2, 1, 1, 0), false, []int{1, 0, 2, 0, 2, 1, 3, 0, 3, 1, 3, 2}},
		{"over a low one late", relOf(4, 3, 0, 0, 2, 2, 1), false, []int{0, 1, 0, 2, 2, 1, 3, 0, 3, 1, 3, 2}},
		{"of itself", relOf(2, 1, 1), true, []int{1, 1}},
		{"a circle of two", relOf(3, 0, 2, 2, 0), false, []int{0, 0, 0, 2, 2, 0, 2, 2}},
		{"a whole circle", relOf(2, 0, 0, 0, 1, 1, 0, 1, 1), true, []int{0, 0, 0, 1, 1, 0, 1, 1}},
		{"all but one of a circle", relOf(2, 0, 0, 0, 1, 1, 0), false, []int{0, 0, 0, 1, 1, 0, 1, 1}},
		{"into a circle and out", relOf(4, 0, 1, 1, 1, 1, 3), false, []int{0, 1, 0, 3, 1, 1, 1, 3}},
	}
	for _, c := range cases {
		before := c.r.Pairs()
		if c.r.IsTransitive() != c.transitive {
			t.Errorf("%s: IsTransitive is %v", c.what, !c.transitive)
		}
		closure := c.r.Closure()
		expect(t, c.what, closure, c.r.Len(), c.want...)
		if !closure.IsTransitive() {
			t.Errorf("%s: the closure isn't transitive", c.what)
		}
		if !slices.Equal(c.r.Pairs(), before) {
			t.Errorf("%s: changed to %v", c.what, c.r.Pairs())
		}
	}
}

func TestClosureIsAnotherOne(t *testing.T) { // P2.2
	r := relOf(3, 0, 1)
	c := r.Closure()
	c.Add(2, 2)
	r.Add(1, 0)
	expect(t, "relation", r, 3, 0, 1, 1, 0)
	expect(t, "closure", c, 3, 0, 1, 2, 2)
}

// TestLongWays: the ways of a row of 200 elements, rising and falling, lead from each to all behind it.
func TestLongWays(t *testing.T) { // P2.2
	rising, falling := New(200), New(200)
	for a := range 199 {
		rising.Add(a, a+1)
		falling.Add(a+1, a)
	}
	if rising.IsTransitive() || falling.IsTransitive() {
		t.Error("a row of steps is transitive")
	}
	up, down := rising.Closure(), falling.Closure()
	if len(up.Pairs()) != 199*200/2 || len(down.Pairs()) != 199*200/2 {
		t.Errorf("%d and %d pairs", len(up.Pairs()), len(down.Pairs()))
	}
	for a := range 200 {
		for b := range 200 {
			if up.Has(a, b) != (a < b) || down.Has(a, b) != (a > b) {
				t.Fatalf("%d, %d: %v, %v", a, b, up.Has(a, b), down.Has(a, b))
			}
		}
	}
	if !up.Join(199, 0) || len(up.Pairs()) != 200*200 {
		t.Errorf("a circle of all has %d pairs", len(up.Pairs()))
	}
}

func TestJoin(t *testing.T) { // P2.2
	cases := []struct {
		what string
		r    *Rel
		a, b int
		grew bool
		want []int
	}{
		{"a step", New(3), 2, 0, true, []int{2, 0}},
		{"of itself", New(3), 1, 1, true, []int{1, 1}},
		{"ahead of a way", relOf(3, 1, 2), 0, 1, true, []int{0, 1, 0, 2, 1, 2}},
		{"behind a way", relOf(3, 0, 1), 1, 2, true, []int{0, 1, 0, 2, 1, 2}},
		{"between two", relOf(4, 3, 1, 2, 0), 1, 2, true, []int{1, 0, 1, 2, 2, 0, 3, 0, 3, 1, 3, 2}},
		{"a circle", relOf(2, 0, 1), 1, 0, true, []int{0, 0, 0, 1, 1, 0, 1, 1}},
		{"there already", relOf(3, 0, 1, 0, 2, 1, 2), 0, 2, false, []int{0, 1, 0, 2, 1, 2}},
		{"there, in a circle", relOf(2, 0, 0, 0, 1, 1, 0, 1, 1), 1, 1, false, []int{0, 0, 0, 1, 1, 0, 1, 1}},
		{"not transitive", relOf(4, 0, 1, 1, 2), 3, 0, true, []int{0, 1, 0, 2, 1, 2, 3, 0, 3, 1, 3, 2}},
		{"not transitive, there already", relOf(3, 0, 1, 1, 2), 0, 1, true, []int{0, 1, 0, 2, 1, 2}},
		{"not transitive, the missing one", relOf(3, 0, 1, 1, 2), 0, 2, true, []int{0, 1, 0, 2, 1, 2}},
		{"not transitive, elsewhere", relOf(5, 0, 1, 1, 2), 3, 4, true, []int{0, 1, 0, 2, 1, 2, 3, 4}},
		{"not transitive, none", relOf(3, 0, 1, 1, 2), 0, 3, false, []int{0, 1, 1, 2}},
		{"none", relOf(3, 0, 1), -1, 0, false, []int{0, 1}},
		{"of no elements", New(0), 0, 0, false, nil},
	}
	for _, c := range cases {
		if got := c.r.Join(c.a, c.b); got != c.grew {
			t.Errorf("%s: Join is %v", c.what, got)
		}
		expect(t, c.what, c.r, c.r.Len(), c.want...)
	}
}

func TestOnly(t *testing.T) { // P2.2
	r := relOf(4, 0, 1, 1, 2, 2, 0, 3, 3, 0, 3)
	cases := []struct {
		what string
		keep []bool
		want []int
	}{
		{"nil", nil, nil},
		{"an empty list", []bool{}, nil},
		{"nobody", []bool{false, false, false, false}, nil},
		{"all", []bool{true, true, true, true}, []int{0, 1, 0, 3, 1, 2, 2, 0, 3, 3}},
		{"more than all", []bool{true, true, true, true, true, true}, []int{0, 1, 0, 3, 1, 2, 2, 0, 3, 3}},
		{"two", []bool{true, false, true, false}, []int{2, 0}},
		{"one", []bool{false, false, false, true}, []int{3, 3}},
		{"shorter", []bool{true, true}, []int{0, 1}},
	}
	for _, c := range cases {
		before := slices.Clone(c.keep)
		expect(t, c.what, r.Only(c.keep), 4, c.want...)
		if !slices.Equal(c.keep, before) {
			t.Errorf("%s: what was handed in is changed", c.what)
		}
	}
	expect(t, "relation", r, 4, 0, 1, 0, 3, 1, 2, 2, 0, 3, 3)
	expect(t, "of no elements", New(0).Only([]bool{true}), 0)
}

func TestOnlyStandsAlone(t *testing.T) { // P2.2
	r := relOf(3, 0, 1)
	o := r.Only([]bool{true, true, true})
	o.Add(1, 0)
	r.Add(2, 2)
	expect(t, "relation", r, 3, 0, 1, 2, 2)
	expect(t, "only", o, 3, 0, 1, 1, 0)
}

// TestWhoeverIsAhead plays relations against ways that are looked for step by step.
func TestWhoeverIsAhead(t *testing.T) { // P2.1, P2.2, P2.3
	random := rand.New(rand.NewSource(2))
	for range 200 {
		n := []int{1, 3, 7, 64, 70}[random.Intn(5)]
		r, l := New(n), []api.Pair(nil)
		for range random.Intn(2 * n) {
			p := api.Pair{A: random.Intn(n), B: random.Intn(n)}
			if r.Add(p.A, p.B) == slices.Contains(l, p) {
				t.Fatalf("%v of %v", p, l)
			}
			if !slices.Contains(l, p) {
				l = append(l, p)
			}
		}
		slices.SortFunc(l, func(p, q api.Pair) int { return cmp.Or(cmp.Compare(p.A, q.A), cmp.Compare(p.B, q.B)) })
		expectPairs(t, "pairs", r, n, l)
		c := r.Closure()
		expectPairs(t, "closure", c, n, reached(n, l))
		if r.IsTransitive() != slices.Equal(c.Pairs(), l) || !c.IsTransitive() {
			t.Fatalf("IsTransitive of %v is %v", l, r.IsTransitive())
		}
		aheadIsAhead(t, c)
		p := api.Pair{A: random.Intn(n), B: random.Intn(n)}
		joined := reached(n, append(slices.Clone(l), p))
		for _, x := range []*Rel{r, c} {
			more := len(x.Pairs()) < len(joined)
			if x.Join(p.A, p.B) != more {
				t.Fatalf("Join %v of %v", p, l)
			}
			expectPairs(t, "joined", x, n, joined)
			if x.Join(p.A, p.B) {
				t.Fatal("what is there became so")
			}
		}
	}
}

func aheadIsAhead(t *testing.T, c *Rel) {
	t.Helper()
	for _, p := range c.Pairs() {
		for b := range c.Len() {
			if c.Has(p.B, b) && !c.Has(p.A, b) {
				t.Fatalf("%v, and %d ahead of %d", p, p.B, b)
			}
		}
	}
}

// reached: the pairs of whom a way of one step or more leads to whom, rising.
func reached(n int, l []api.Pair) []api.Pair {
	var all []api.Pair
	for a := range n {
		seen := make([]bool, n)
		for left := []int{a}; len(left) > 0; {
			at := left[0]
			left = left[1:]
			for _, p := range l {
				if p.A == at && !seen[p.B] {
					seen[p.B] = true
					left = append(left, p.B)
				}
			}
		}
		for b := range n {
			if seen[b] {
				all = append(all, api.Pair{A: a, B: b})
			}
		}
	}
	return all
}
