package union

import (
	"math"
	"math/rand"
	"slices"
	"testing"
)

// wrong: numbers that are an element of no union.
var wrong = []int{math.MinInt, math.MinInt32, -1000, -2, -1, 1000, 1001, 1 << 32, math.MaxInt}

// unionOf: 0, 1, 1, 2 joins 0 and 1, then 1 and 2.
func unionOf(n int, numbers ...int) *Union {
	u := New(n)
	for i := 0; i < len(numbers); i += 2 {
		u.Join(numbers[i], numbers[i+1])
	}
	return u
}

// alone: the classes of n elements of which each is by itself.
func alone(n int) [][]int {
	var classes [][]int
	for i := range n {
		classes = append(classes, []int{i})
	}
	return classes
}

// count: 0, 1, .., n of them.
func count(n int) []int {
	var l []int
	for i := range n {
		l = append(l, i)
	}
	return l
}

// spoil writes over all of a list, its spare room too.
func spoil(l []int) {
	for i := range l[:cap(l)] {
		l[:cap(l)][i] = -7
	}
}

func alike(a, b [][]int) bool { return slices.EqualFunc(a, b, slices.Equal[[]int]) }

// expect holds all that a union answers against its classes.
func expect(t *testing.T, what string, u *Union, n int, classes [][]int) {
	t.Helper()
	if u.Len() != n {
		t.Errorf("%s: Len is %d, want %d", what, u.Len(), n)
	}
	if got := u.Classes(); !alike(got, classes) {
		t.Errorf("%s: Classes is %v, want %v", what, got, classes)
	}
	places := make([]int, n)
	for place, class := range classes {
		for _, e := range class {
			places[e] = place
			if got := u.Least(e); got != class[0] {
				t.Errorf("%s: Least(%d) is %d, want %d", what, e, got, class[0])
			}
		}
	}
	if got := u.Places(); !slices.Equal(got, places) {
		t.Errorf("%s: Places is %v, want %v", what, got, places)
	}
	// Of large unions some are asked, both ways round.
	step := 1 + n/30
	for a := 0; a < n; a += step {
		for b := 0; b < n; b += step {
			if u.Same(a, b) != (places[a] == places[b]) {
				t.Errorf("%s: Same(%d, %d) is %v", what, a, b, u.Same(a, b))
			}
		}
	}
}

func TestNewIsHeldAndEachAlone(t *testing.T) { // P6.1
	for n, want := range map[int]int{math.MinInt: 0, -1000: 0, -1: 0, 0: 0, 1: 1, 2: 2, 64: 64, 999: 999, 1000: 1000, 1001: 1000, 1 << 32: 1000, math.MaxInt: 1000} {
		expect(t, "New", New(n), want, alone(want))
	}
}

func TestJoin(t *testing.T) { // P6.1, P6.2
	u := New(6)
	for _, c := range []struct {
		what  string
		a, b  int
		fresh bool
		want  [][]int
	}{
		{"the example", 2, 0, true, [][]int{{0, 2}, {1}, {3}, {4}, {5}}},
		{"again", 2, 0, false, [][]int{{0, 2}, {1}, {3}, {4}, {5}}},
		{"the other way round", 0, 2, false, [][]int{{0, 2}, {1}, {3}, {4}, {5}}},
		{"with itself", 4, 4, false, [][]int{{0, 2}, {1}, {3}, {4}, {5}}},
		{"two others", 4, 5, true, [][]int{{0, 2}, {1}, {3}, {4, 5}}},
		{"a third to them", 5, 3, true, [][]int{{0, 2}, {1}, {3, 4, 5}}},
		{"the greatest of both", 2, 5, true, [][]int{{0, 2, 3, 4, 5}, {1}}},
		{"two that are one by others", 0, 4, false, [][]int{{0, 2, 3, 4, 5}, {1}}},
		{"the last one", 1, 3, true, [][]int{{0, 1, 2, 3, 4, 5}}},
		{"all are one", 5, 1, false, [][]int{{0, 1, 2, 3, 4, 5}}},
	} {
		if got := u.Join(c.a, c.b); got != c.fresh {
			t.Errorf("P6.1: %s: Join(%d, %d) is %v", c.what, c.a, c.b, got)
		}
		expect(t, c.what, u, 6, c.want)
	}
}

func TestExample(t *testing.T) { // P6.1
	u := New(3)
	if !u.Join(2, 0) || u.Least(2) != 0 || u.Least(0) != 0 || u.Least(1) != 1 {
		t.Errorf("P6.1: the example: %d, %d, %d", u.Least(0), u.Least(1), u.Least(2))
	}
}

func TestOfNone(t *testing.T) { // P6.1
	for _, n := range []int{0, 1, 2, 40, 999, 1000} {
		u := New(n)
		for _, x := range append([]int{n, n + 1}, wrong...) {
			if x >= 0 && x < n {
				continue
			}
			if u.Least(x) != -1 {
				t.Errorf("P6.1: of %d: Least(%d) is %d", n, x, u.Least(x))
			}
			for _, y := range []int{x, 0, n - 1, n, -1} {
				if u.Same(x, y) || u.Same(y, x) || u.Join(x, y) || u.Join(y, x) {
					t.Errorf("P6.1: of %d: %d and %d are taken", n, x, y)
				}
			}
		}
		expect(t, "behind what is none", u, n, alone(n))
	}
	joined := unionOf(4, 1, 3)
	for _, x := range wrong {
		if joined.Join(3, x) || joined.Join(x, 1) || joined.Same(1, x) {
			t.Errorf("P6.1: %d is taken", x)
		}
	}
	expect(t, "joined, behind what is none", joined, 4, [][]int{{0}, {1, 3}, {2}})
}

func TestRowsOfJoins(t *testing.T) { // P6.1, P6.2
	const n = 1000
	down, up, star, ends := New(n), New(n), New(n), New(n)
	for i := 1; i < n; i++ {
		if !down.Join(n-i, n-i-1) || !up.Join(i-1, i) || !star.Join(n-1, i-1) || !ends.Join(i, (i*7+3)%i) {
			t.Fatalf("P6.1: join %d of a row tells that they are one", i)
		}
	}
	all := [][]int{count(n)}
	expect(t, "down", down, n, all)
	expect(t, "up", up, n, all)
	expect(t, "star", star, n, all)
	expect(t, "ends", ends, n, all)
}

func TestClassesByTheirLeast(t *testing.T) { // P6.1
	for _, c := range []struct {
		what   string
		u      *Union
		n      int
		want   [][]int
		places []int
	}{
		{"none", New(0), 0, nil, nil},
		{"interlaced", unionOf(6, 5, 3, 3, 1, 4, 2), 6, [][]int{{0}, {1, 3, 5}, {2, 4}}, []int{0, 1, 2, 1, 2, 1}},
		{"the later class began first", unionOf(4, 2, 3, 1, 0), 4, [][]int{{0, 1}, {2, 3}}, []int{0, 0, 1, 1}},
		{"around", unionOf(5, 4, 0, 3, 1), 5, [][]int{{0, 4}, {1, 3}, {2}}, []int{0, 1, 2, 1, 0}},
		{"the least came last", unionOf(5, 3, 4, 2, 4, 0, 3), 5, [][]int{{0, 2, 3, 4}, {1}}, []int{0, 1, 0, 0, 0}},
	} {
		expect(t, c.what, c.u, c.n, c.want)
		if got := c.u.Places(); !slices.Equal(got, c.places) {
			t.Errorf("P6.1: %s: Places is %v, want %v", c.what, got, c.places)
		}
	}
}

func TestCopyStandsAlone(t *testing.T) { // P6.1, P6.2
	u := unionOf(5, 3, 1)
	c := u.Copy()
	expect(t, "copy", c, 5, [][]int{{0}, {1, 3}, {2}, {4}})
	c.Join(1, 0)
	expect(t, "the first, behind the copy", u, 5, [][]int{{0}, {1, 3}, {2}, {4}})
	u.Join(3, 4)
	expect(t, "copy, behind the first", c, 5, [][]int{{0, 1, 3}, {2}, {4}})
	again := c.Copy()
	again.Join(2, 4)
	expect(t, "copy of a copy", again, 5, [][]int{{0, 1, 3}, {2, 4}})
	expect(t, "copy, behind its copy", c, 5, [][]int{{0, 1, 3}, {2}, {4}})
	expect(t, "copy of none", New(0).Copy(), 0, nil)
	expect(t, "copy of the greatest", New(1000).Copy(), 1000, alone(1000))
}

func TestAnswersAreNewMemory(t *testing.T) { // P6.1
	u := unionOf(7, 6, 1, 3, 6, 5, 4)
	want := [][]int{{0}, {1, 3, 6}, {2}, {4, 5}}
	classes, others := u.Classes(), u.Classes()
	for i := range classes {
		spoil(classes[i])
		for k := i + 1; k < len(classes); k++ {
			if !slices.Equal(classes[k], want[k]) {
				t.Fatalf("P6.1: class %d is touched by class %d: %v", k, i, classes[k])
			}
		}
	}
	spoil(u.Places())
	if !alike(others, want) {
		t.Errorf("P6.1: an earlier answer is touched: %v", others)
	}
	expect(t, "spoilt", u, 7, want)
	places := u.Places()
	u.Join(0, 6)
	if !alike(others, want) || !slices.Equal(places, []int{0, 1, 2, 1, 3, 3, 1}) {
		t.Errorf("P6.1: answers follow the union: %v, %v", others, places)
	}
}

func TestAskingChangesNothing(t *testing.T) { // P6.2
	u := unionOf(6, 4, 5, 3, 4, 2, 3)
	before := u.Copy()
	for i := -1; i <= 6; i++ {
		u.Least(i)
		u.Same(i, 5)
	}
	u.Classes()
	u.Places()
	if !slices.Equal(u.next, before.next) {
		t.Errorf("P6.2: asked, %v became %v", before.next, u.next)
	}
}

func TestWaysAreCutShort(t *testing.T) {
	for _, ends := range [][2]int{{5, 0}, {0, 5}} {
		u := unionOf(6, 4, 5, 3, 4, 2, 3, 1, 2)
		if got := slices.Collect(u.way(5)); !slices.Equal(got, []int{5, 4, 3, 2, 1}) {
			t.Fatalf("the way: %v", got)
		}
		u.Join(ends[0], ends[1])
		for i := range 6 {
			if u.next[i] != 0 {
				t.Errorf("joined %v, the way of %d leads to %d", ends, i, u.next[i])
			}
		}
	}
}

func TestWayIsLeftAndGoneThroughAgain(t *testing.T) {
	u := unionOf(4, 2, 3, 1, 2)
	way := u.way(3)
	var seen []int
	for a := range way {
		if a == 1 {
			break
		}
		for b := range way {
			seen = append(seen, a, b)
		}
	}
	if want := []int{3, 3, 3, 2, 3, 1, 2, 3, 2, 2, 2, 1}; !slices.Equal(seen, want) {
		t.Errorf("nested: %v", seen)
	}
	u.Join(1, 0)
	if got := slices.Collect(way); !slices.Equal(got, []int{3, 2, 1, 0}) {
		t.Errorf("it doesn't give what the union holds now: %v", got)
	}
	for _, x := range append([]int{4}, wrong...) {
		if got := slices.Collect(u.way(x)); len(got) != 0 {
			t.Errorf("the way of %d: %v", x, got)
		}
	}
}

// TestUnionIsAPartition plays unions of many lengths against classes that are kept as lists.
func TestUnionIsAPartition(t *testing.T) { // P6.1, P6.2
	random := rand.New(rand.NewSource(6))
	for range 300 {
		n := random.Intn(25)
		u, classes := New(n), alone(n)
		var joined [][2]int
		for range random.Intn(2*n + 2) {
			a, b := random.Intn(n+2)-1, random.Intn(n+2)-1
			var fresh bool
			classes, fresh = joinLists(classes, a, b)
			if u.Join(a, b) != fresh {
				t.Fatalf("P6.1: Join(%d, %d) of %v is %v", a, b, u.Classes(), !fresh)
			}
			if fresh {
				joined = append(joined, [2]int{a, b})
			}
			for _, pair := range joined {
				if !u.Same(pair[0], pair[1]) || !u.Same(pair[1], pair[0]) {
					t.Fatalf("P6.2: %v doesn't stay joined", pair)
				}
			}
		}
		expect(t, "played", u, n, classes)
	}
}

// TestOrderOfJoinsIsNotTold joins the same pairs forwards and shuffled.
func TestOrderOfJoinsIsNotTold(t *testing.T) { // P6.1, P6.2
	random := rand.New(rand.NewSource(61))
	for range 100 {
		n := 1 + random.Intn(30)
		pairs := make([][2]int, random.Intn(n))
		for i := range pairs {
			pairs[i] = [2]int{random.Intn(n), random.Intn(n)}
		}
		first, second := New(n), New(n)
		for _, p := range pairs {
			first.Join(p[0], p[1])
		}
		for _, i := range random.Perm(len(pairs)) {
			second.Join(pairs[i][1], pairs[i][0])
		}
		expect(t, "shuffled", second, n, first.Classes())
	}
}

// joinLists makes two classes one the plain way; whether they weren't.
func joinLists(classes [][]int, a, b int) ([][]int, bool) {
	at := func(x int) int {
		return slices.IndexFunc(classes, func(class []int) bool { return slices.Contains(class, x) })
	}
	i, k := at(a), at(b)
	if i < 0 || k < 0 || i == k {
		return classes, false
	}
	i, k = min(i, k), max(i, k)
	classes[i] = slices.Sorted(slices.Values(slices.Concat(classes[i], classes[k])))
	return slices.Delete(classes, k, k+1), true
}
