package bits

import (
	"math"
	"math/rand"
	"slices"
	"testing"
)

// wrong: numbers that are a place of no row.
var wrong = []int{math.MinInt, math.MinInt32, -65, -64, -1, 1000, 1001, 1 << 32, math.MaxInt}

// lengths: around the ends of words, and the greatest ones.
var lengths = []int{0, 1, 2, 63, 64, 65, 127, 128, 129, 959, 960, 961, 999, 1000}

func rowOf(n int, on ...int) *Row {
	r := New(n)
	for _, i := range on {
		r.Put(i, true)
	}
	return r
}

func expect(t *testing.T, what string, r *Row, n int, want ...int) {
	t.Helper()
	if r.Len() != n {
		t.Errorf("%s: Len is %d, want %d", what, r.Len(), n)
	}
	if got := r.All(); !slices.Equal(got, want) {
		t.Errorf("%s: All is %v, want %v", what, got, want)
	}
	if r.Count() != len(want) {
		t.Errorf("%s: Count is %d, want %d", what, r.Count(), len(want))
	}
	for i := -1; i <= n; i++ {
		if r.Has(i) != slices.Contains(want, i) {
			t.Errorf("%s: Has(%d) is %v", what, i, r.Has(i))
		}
	}
}

func TestNewIsHeldAndOff(t *testing.T) { // P1.1
	for n, want := range map[int]int{math.MinInt: 0, -1: 0, 0: 0, 1: 1, 64: 64, 65: 65, 999: 999, 1000: 1000, 1001: 1000, math.MaxInt: 1000} {
		expect(t, "New", New(n), want)
	}
}

func TestPutAndHas(t *testing.T) { // P1.1
	r := New(70)
	r.Put(3, true)
	expect(t, "the example", r, 70, 3)
	r.Put(3, true)
	expect(t, "twice", r, 70, 3)
	for _, i := range []int{69, 0, 64, 63} {
		r.Put(i, true)
	}
	expect(t, "ends of words", r, 70, 0, 3, 63, 64, 69)
	r.Put(63, false)
	r.Put(5, false)
	expect(t, "off", r, 70, 0, 3, 64, 69)
}

func TestNoPlace(t *testing.T) { // P1.1
	for _, n := range lengths {
		r := New(n)
		for i := range n {
			r.Put(i, true)
		}
		for _, i := range append([]int{n, n + 1}, wrong...) {
			r.Put(i, false)
			if r.Has(i) || r.Count() != n {
				t.Errorf("of %d: Put(%d, false) is told", n, i)
			}
			r.Put(i, true)
			if r.Has(i) || r.Count() != n {
				t.Errorf("of %d: Put(%d, true) is told", n, i)
			}
		}
	}
}

func TestOr(t *testing.T) { // P1.1
	cases := []struct {
		what string
		r, o *Row
		grew bool
		n    int
		want []int
	}{
		{"more", rowOf(10, 1, 2), rowOf(10, 2, 3), true, 10, []int{1, 2, 3}},
		{"nothing new", rowOf(10, 1, 2), rowOf(10, 2), false, 10, []int{1, 2}},
		{"nothing", rowOf(10, 1), New(10), false, 10, []int{1}},
		{"shorter", rowOf(130, 129), rowOf(5, 4), true, 130, []int{4, 129}},
		{"longer, same word", rowOf(10, 1), rowOf(60, 9, 10, 59), true, 10, []int{1, 9}},
		{"longer, only beyond", rowOf(10, 1), rowOf(1000, 1, 10, 64, 999), false, 10, []int{1}},
		{"longer, beyond a whole word", rowOf(64, 1), rowOf(65, 63, 64), true, 64, []int{1, 63}},
		{"into no places", New(0), rowOf(10, 0), false, 0, nil},
		{"of no places", rowOf(10, 0), New(0), false, 10, []int{0}},
		{"nil", rowOf(10, 7), nil, false, 10, []int{7}},
	}
	for _, c := range cases {
		before := copyOf(c.o)
		if got := c.r.Or(c.o); got != c.grew {
			t.Errorf("%s: Or is %v", c.what, got)
		}
		expect(t, c.what, c.r, c.n, c.want...)
		unchanged(t, c.what, c.o, before)
	}
	r := rowOf(10, 1)
	if r.Or(r) {
		t.Error("Or of itself grew")
	}
	expect(t, "Or of itself", r, 10, 1)
}

func TestOrTellsGrowthInEveryWord(t *testing.T) { // P1.1
	for _, i := range []int{0, 63, 64, 500, 999} {
		r := rowOf(1000, 1, 65)
		if !r.Or(rowOf(1000, 1, i)) {
			t.Errorf("Or of %d: nothing became on", i)
		}
	}
}

func TestAnd(t *testing.T) { // P1.1
	cases := []struct {
		what string
		r, o *Row
		n    int
		want []int
	}{
		{"both", rowOf(10, 1, 2), rowOf(10, 2, 3), 10, []int{2}},
		{"shorter", rowOf(130, 4, 5, 70, 129), rowOf(5, 4), 130, []int{4}},
		{"longer", rowOf(10, 1, 9), rowOf(1000, 9, 10, 999), 10, []int{9}},
		{"of no places", rowOf(10, 0), New(0), 10, nil},
		{"nil", rowOf(130, 7, 129), nil, 130, nil},
	}
	for _, c := range cases {
		before := copyOf(c.o)
		c.r.And(c.o)
		expect(t, c.what, c.r, c.n, c.want...)
		unchanged(t, c.what, c.o, before)
	}
	r := rowOf(10, 1)
	r.And(r)
	expect(t, "And of itself", r, 10, 1)
}

func copyOf(o *Row) *Row {
	if o == nil {
		return nil
	}
	return o.Copy()
}

func unchanged(t *testing.T, what string, o, before *Row) {
	t.Helper()
	if o != nil && !o.Same(before) {
		t.Errorf("%s: what was handed in is changed", what)
	}
}

func TestSame(t *testing.T) { // P1.1
	for i, n := range lengths {
		for k, m := range lengths {
			if New(n).Same(New(m)) != (i == k) {
				t.Errorf("all off, of %d and %d", n, m)
			}
		}
		if New(n).Same(nil) != (n == 0) {
			t.Errorf("of %d: Same(nil)", n)
		}
		for _, place := range []int{0, n / 2, n - 1} {
			if n > 0 && (rowOf(n, place).Same(New(n)) || New(n).Same(rowOf(n, place))) {
				t.Errorf("of %d: place %d doesn't count", n, place)
			}
		}
	}
	cut, plain := New(10), rowOf(10, 9)
	cut.Or(rowOf(60, 9, 10, 59))
	if !cut.Same(plain) || !plain.Same(cut) {
		t.Error("what was beyond the row counts")
	}
	plain.Put(9, false)
	if !plain.Same(New(10)) {
		t.Error("what was on counts")
	}
}

func TestCopyStandsAlone(t *testing.T) { // P1.1
	for _, n := range []int{1, 64, 130, 1000} {
		r := rowOf(n, 0)
		c := r.Copy()
		if !r.Same(c) || !c.Same(r) {
			t.Errorf("of %d: the copy differs", n)
		}
		c.Put(0, false)
		expect(t, "row", r, n, 0)
		c.Put(0, true)
		r.And(nil)
		expect(t, "copy", c, n, 0)
	}
	expect(t, "copy of none", New(0).Copy(), 0)
}

func TestAllIsNewMemory(t *testing.T) { // P1.1
	r := rowOf(200, 1, 100)
	first, second := r.All(), r.All()
	first[0], first[1] = 5, 6
	_ = append(first[:1], 7)
	if !slices.Equal(second, []int{1, 100}) {
		t.Errorf("an earlier answer is touched: %v", second)
	}
	expect(t, "row", r, 200, 1, 100)
	r.Put(1, false)
	if !slices.Equal(second, []int{1, 100}) {
		t.Errorf("an answer follows the row: %v", second)
	}
}

func TestEachIsLeftAndGoneThroughAgain(t *testing.T) {
	r := rowOf(200, 1, 63, 64, 199)
	var seen []int
	for i := range r.each() {
		if i == 64 {
			break
		}
		for k := range r.each() {
			seen = append(seen, i, k)
		}
	}
	if want := []int{1, 1, 1, 63, 1, 64, 1, 199, 63, 1, 63, 63, 63, 64, 63, 199}; !slices.Equal(seen, want) {
		t.Errorf("nested: %v", seen)
	}
	every := r.each()
	r.Put(5, true)
	if got := slices.Collect(every); !slices.Equal(got, []int{1, 5, 63, 64, 199}) {
		t.Errorf("it doesn't give what the row holds now: %v", got)
	}
}

// TestRowIsASet plays rows of all lengths against sets kept as maps.
func TestRowIsASet(t *testing.T) { // P1.1, P1.2
	random := rand.New(rand.NewSource(1))
	for range 300 {
		n, m := lengths[random.Intn(len(lengths))], lengths[random.Intn(len(lengths))]
		a, inA := randomSet(random, n)
		b, inB := randomSet(random, m)
		either, both := map[int]bool{}, map[int]bool{}
		grew := false
		for i := range n {
			if inA[i] || inB[i] {
				either[i] = true
				grew = grew || !inA[i]
			}
			if inA[i] && inB[i] {
				both[i] = true
			}
		}
		or, and := a.Copy(), a.Copy()
		if or.Or(b) != grew {
			t.Fatalf("Or of %v and %v: %v", a.All(), b.All(), !grew)
		}
		and.And(b)
		expect(t, "set", a, n, sorted(inA)...)
		expect(t, "either", or, n, sorted(either)...)
		expect(t, "both", and, n, sorted(both)...)
		if or.Or(b) || or.Or(a) || and.Or(and) || a.Or(and) {
			t.Fatal("what is there became on")
		}
		or.And(a)
		if !or.Same(a) {
			t.Fatalf("what either has, and a: %v, want %v", or.All(), a.All())
		}
	}
}

func randomSet(random *rand.Rand, n int) (*Row, map[int]bool) {
	r, in := New(n), map[int]bool{}
	for range random.Intn(n + 1) {
		i := random.Intn(n)
		on := random.Intn(4) > 0
		r.Put(i, on)
		if on {
			in[i] = true
		} else {
			delete(in, i)
		}
	}
	return r, in
}

func sorted(in map[int]bool) []int {
	var all []int
	for i := range in {
		all = append(all, i)
	}
	slices.Sort(all)
	return all
}
