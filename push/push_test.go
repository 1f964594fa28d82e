package push

import (
	"math"
	"math/rand"
	"slices"
	"strings"
	"testing"

	"cento/api"
	"cento/arrow"
	"cento/obj"
	"cento/union"
)

// wrong: numbers that are a place of no object.
var wrong = []int{math.MinInt, math.MinInt32, -64, -1, 40, 41, 200, 1 << 32, math.MaxInt}

// pairsOf: 0, 1, 1, 2 is 0 ahead of 1, 1 ahead of 2.
func pairsOf(numbers ...int) []api.Pair {
	var l []api.Pair
	for i := 0; i < len(numbers); i += 2 {
		l = append(l, api.Pair{A: numbers[i], B: numbers[i+1]})
	}
	return l
}

// objOf: a label a letter.
func objOf(labels string, numbers ...int) api.Obj {
	o := api.Obj{Pairs: pairsOf(numbers...)}
	for _, label := range labels {
		o.Labels = append(o.Labels, string(label))
	}
	return o
}

// many: n elements with the same label, in no order.
func many(n int) api.Obj { return objOf(strings.Repeat("x", n)) }

// row: each element is ahead of all behind it.
func row(labels string) api.Obj {
	o := objOf(labels)
	for a := range o.Labels {
		for b := a + 1; b < len(o.Labels); b++ {
			o.Pairs = append(o.Pairs, api.Pair{A: a, B: b})
		}
	}
	return o
}

// circle: each element is ahead of each.
func circle(labels string) api.Obj {
	o := objOf(labels)
	for a := range o.Labels {
		for b := range o.Labels {
			o.Pairs = append(o.Pairs, api.Pair{A: a, B: b})
		}
	}
	return o
}

// from: first, first+1, .., n of them.
func from(first, n int) []int {
	var l []int
	for i := range n {
		l = append(l, first+i)
	}
	return l
}

func isNothing(o api.Obj, lists ...[]int) bool {
	for _, l := range lists {
		if len(l) > 0 {
			return false
		}
	}
	return len(o.Labels) == 0 && len(o.Pairs) == 0
}

// illFormed: what is no object, each with a label x at its beginning.
func illFormed() []api.Obj {
	long := objOf("xy")
	long.Labels[1] = strings.Repeat("y", api.MaxLine+1)
	l := []api.Obj{
		long,
		objOf("xy", 0, 1, 0, 1),
		objOf("xy", 1, 0, 0, 1),
		objOf("xyz", 0, 1, 1, 2),
		objOf("xy", 0, 1, 1, 0),
	}
	for _, n := range append(wrong, 2) {
		l = append(l, objOf("xy", 0, n), objOf("xy", n, 1))
	}
	return l
}

func TestSum(t *testing.T) { // P7.1
	for _, c := range []struct {
		what    string
		b, c, q api.Obj
	}{
		{"of nothing", api.Obj{}, api.Obj{}, api.Obj{}},
		{"nothing first", api.Obj{}, row("ab"), row("ab")},
		{"nothing last", row("ab"), api.Obj{}, row("ab")},
		{"in no order", objOf("ab"), objOf("ba"), objOf("abba")},
		{"both with pairs", objOf("ab", 1, 0), objOf("cd", 0, 1), objOf("abcd", 1, 0, 2, 3)},
		{"the same twice", row("aa"), row("aa"), objOf("aaaa", 0, 1, 2, 3)},
		{"circles", circle("a"), circle("bc"), objOf("abc", 0, 0, 1, 1, 1, 2, 2, 1, 2, 2)},
	} {
		q, i, j, err := Sum(c.b, c.c)
		n, m := len(c.b.Labels), len(c.c.Labels)
		if err != api.OK || !obj.Same(q, c.q) || !slices.Equal(i, from(0, n)) || !slices.Equal(j, from(n, m)) {
			t.Errorf("Sum, %s: %v, %v, %v, %v", c.what, q, i, j, err)
		}
	}
}

func TestSumAtItsLimit(t *testing.T) { // P7.1
	for _, n := range []int{0, 1, 20, 39, 40} {
		b, c := row(strings.Repeat("a", n)), circle(strings.Repeat("b", 40-n))
		q, i, j, err := Sum(b, c)
		if err != api.OK || !obj.Is(q) || len(q.Labels) != 40 || len(q.Pairs) != len(b.Pairs)+len(c.Pairs) {
			t.Errorf("Sum of %d and %d: %v, %v", n, 40-n, q, err)
		}
		if !arrow.Is(b, q, i) || !arrow.Is(c, q, j) {
			t.Errorf("Sum of %d and %d: %v, %v", n, 40-n, i, j)
		}
		if q, i, j, err := Sum(many(n), many(41-n)); err != api.ErrLarge || !isNothing(q, i, j) {
			t.Errorf("Sum of %d and %d: %v, %v", n, 41-n, q, err)
		}
	}
	label := strings.Repeat("é", api.MaxLine/2)
	o := api.Obj{Labels: []string{label}}
	if q, _, _, err := Sum(o, o); err != api.OK || !slices.Equal(q.Labels, []string{label, label}) {
		t.Errorf("Sum of the longest labels: %v, %v", q, err)
	}
}

func TestSumOfNoObjects(t *testing.T) { // P7.1
	x := objOf("x")
	for _, bad := range illFormed() {
		for _, c := range [][2]api.Obj{{bad, x}, {x, bad}, {bad, bad}, {bad, {}}, {{}, bad}} {
			if q, i, j, err := Sum(c[0], c[1]); err != api.ErrForm || !isNothing(q, i, j) {
				t.Errorf("Sum of %v: %v, %v, %v, %v", c, q, i, j, err)
			}
		}
		for _, c := range [][2]api.Obj{{bad, many(40)}, {many(40), bad}, {many(41), bad}} {
			if q, i, j, err := Sum(c[0], c[1]); err != api.ErrLarge || !isNothing(q, i, j) {
				t.Errorf("Sum of %v: %v, %v, %v, %v", c, q, i, j, err)
			}
		}
	}
}

func TestEqual(t *testing.T) { // P7.1
	for _, c := range []struct {
		what  string
		a, b  api.Obj
		f, g  []int
		q     api.Obj
		where []int
	}{
		{"of nothing", api.Obj{}, api.Obj{}, nil, nil, api.Obj{}, nil},
		{"nothing is made one", api.Obj{}, row("ab"), nil, nil, row("ab"), []int{0, 1}},
		{"one is itself", objOf("b"), row("abb"), []int{1}, []int{1}, row("abb"), []int{0, 1, 2}},
		{"two are one", objOf("x"), objOf("xyx"), []int{0}, []int{2}, objOf("xy"), []int{0, 1, 0}},
		{"the other way round", objOf("x"), objOf("xyx"), []int{2}, []int{0}, objOf("xy"), []int{0, 1, 0}},
		{"by a third one", objOf("xx"), objOf("yxxx"), []int{3, 2}, []int{2, 1}, objOf("yx"), []int{0, 1, 1, 1}},
		{"two by two", objOf("xy"), objOf("xyyx"), []int{0, 1}, []int{3, 2}, objOf("xy"), []int{0, 1, 1, 0}},
		{"one ahead of itself", objOf("x"), row("xx"), []int{0}, []int{1}, objOf("x", 0, 0), []int{0, 0}},
		{"a circle", objOf("x"), row("xyx"), []int{0}, []int{2}, circle("xy"), []int{0, 1, 0}},
		{"ways through a class", objOf("x"), objOf("axbx", 0, 1, 3, 2), []int{1}, []int{3}, objOf("axb", 0, 1, 0, 2, 1, 2), []int{0, 1, 2, 1}},
		{"with pairs of a", row("xy"), objOf("xyxy", 0, 1, 2, 3), []int{0, 1}, []int{2, 3}, row("xy"), []int{0, 1, 0, 1}},
		{"crossed", objOf("xx"), objOf("xxx", 0, 2), []int{0, 1}, []int{1, 0}, objOf("xx", 0, 1), []int{0, 0, 1}},
	} {
		q, where, err := Equal(c.a, c.b, c.f, c.g)
		if err != api.OK || !obj.Same(q, c.q) || !slices.Equal(where, c.where) {
			t.Errorf("Equal, %s: %v, %v, %v", c.what, q, where, err)
		}
	}
}

func TestEqualAtItsLimit(t *testing.T) { // P7.1
	// 39 of a make a row of 40 one.
	b := row(strings.Repeat("x", 40))
	q, where, err := Equal(many(39), b, from(0, 39), from(1, 39))
	if err != api.OK || !obj.Same(q, objOf("x", 0, 0)) || !slices.Equal(where, make([]int, 40)) {
		t.Errorf("Equal of a row: %v, %v, %v", q, where, err)
	}
	if q, where, err = Equal(many(40), b, from(0, 40), from(0, 40)); err != api.OK || !obj.Same(q, b) || !slices.Equal(where, from(0, 40)) {
		t.Errorf("Equal that moves nothing: %v, %v, %v", q, where, err)
	}
	x := objOf("x")
	for _, c := range []struct {
		a, b api.Obj
		f, g []int
	}{
		{many(41), x, make([]int, 41), make([]int, 41)},
		{many(41), many(41), from(0, 41), from(0, 41)},
		{x, many(41), []int{0}, []int{0}},
		{x, many(41), []int{-1}, nil},
		{many(41), objOf("xy", 1, 2), nil, nil},
		{objOf("xy", 1, 2), many(41), nil, nil},
	} {
		if q, where, err := Equal(c.a, c.b, c.f, c.g); err != api.ErrLarge || !isNothing(q, where) {
			t.Errorf("Equal of %d and %d: %v, %v, %v", len(c.a.Labels), len(c.b.Labels), q, where, err)
		}
	}
}

func TestEqualOfNoArrows(t *testing.T) { // P7.1
	refused := func(a, b api.Obj, f, g []int) {
		t.Helper()
		for range 2 {
			if q, where, err := Equal(a, b, f, g); err != api.ErrForm || !isNothing(q, where) {
				t.Errorf("Equal of %v, %v, %v, %v: %v, %v, %v", a, b, f, g, q, where, err)
			}
			f, g = g, f
		}
	}
	x, xy := objOf("x"), objOf("xy")
	for _, bad := range illFormed() {
		refused(x, bad, []int{0}, []int{0})
		refused(bad, row("xyz"), from(0, len(bad.Labels)), from(0, len(bad.Labels)))
		refused(api.Obj{}, bad, nil, nil)
	}
	for _, n := range append(wrong, 2) {
		refused(x, xy, []int{0}, []int{n})
		refused(x, xy, []int{n}, []int{n})
	}
	refused(x, xy, []int{0}, []int{1})
	refused(x, xy, []int{0}, nil)
	refused(x, xy, []int{0}, []int{0, 0})
	refused(api.Obj{}, xy, nil, []int{0})
	refused(x, api.Obj{}, nil, nil)
	refused(row("xy"), objOf("xyxy", 0, 1), []int{0, 1}, []int{2, 3})
}

func TestPush(t *testing.T) { // P7.2
	for _, c := range []struct {
		what    string
		a, b, c api.Obj
		f, g    []int
		q       api.Obj
		i, j    []int
	}{
		{"of nothing", api.Obj{}, api.Obj{}, api.Obj{}, nil, nil, api.Obj{}, nil, nil},
		{"nothing in common", api.Obj{}, row("ab"), row("ab"), nil, nil, objOf("abab", 0, 1, 2, 3), []int{0, 1}, []int{2, 3}},
		{"all in common", row("ab"), row("ab"), row("ab"), []int{0, 1}, []int{0, 1}, row("ab"), []int{0, 1}, []int{0, 1}},
		{"one behind each", objOf("x"), row("xb"), row("xc"), []int{0}, []int{0}, objOf("xbc", 0, 1, 0, 2), []int{0, 1}, []int{0, 2}},
		{"one ahead, one behind", objOf("x"), row("xb"), row("cx"), []int{0}, []int{1}, objOf("xbc", 0, 1, 2, 0, 2, 1), []int{0, 1}, []int{2, 0}},
		{"the contrary", objOf("xy"), row("xy"), row("yx"), []int{0, 1}, []int{1, 0}, circle("xy"), []int{0, 1}, []int{1, 0}},
		{"between", row("xy"), objOf("xby", 0, 1, 0, 2, 1, 2), objOf("xcy", 0, 1, 0, 2, 1, 2), []int{0, 2}, []int{0, 2},
			objOf("xbyc", 0, 1, 0, 2, 0, 3, 1, 2, 3, 2), []int{0, 1, 2}, []int{0, 3, 2}},
		{"two made one by g", objOf("xx"), row("xx"), objOf("x", 0, 0), []int{0, 1}, []int{0, 0}, objOf("x", 0, 0), []int{0, 0}, []int{0}},
		{"two made one by f", objOf("xx"), objOf("x"), objOf("yxx", 1, 0), []int{0, 0}, []int{1, 2}, objOf("xy", 0, 1), []int{0}, []int{1, 0, 0}},
	} {
		q, i, j, err := Push(c.a, c.b, c.c, c.f, c.g)
		if err != api.OK || !obj.Same(q, c.q) || !slices.Equal(i, c.i) || !slices.Equal(j, c.j) {
			t.Errorf("Push, %s: %v, %v, %v, %v", c.what, q, i, j, err)
		}
	}
}

func TestPushAtItsLimit(t *testing.T) { // P7.2
	q, i, j, err := Push(many(20), many(20), many(20), from(0, 20), from(0, 20))
	if err != api.OK || !obj.Same(q, many(20)) || !slices.Equal(i, from(0, 20)) || !slices.Equal(j, from(0, 20)) {
		t.Errorf("Push of 20 over 20: %v, %v, %v, %v", q, i, j, err)
	}
	if q, i, j, err = Push(many(40), many(1), many(39), make([]int, 40), make([]int, 40)); err != api.OK || !obj.Same(q, many(39)) || !slices.Equal(i, []int{0}) || !slices.Equal(j, from(0, 39)) {
		t.Errorf("Push over 40: %v, %v, %v, %v", q, i, j, err)
	}
	x, bad := objOf("x"), objOf("xy", 1, 2)
	for _, c := range []struct {
		a, b, c api.Obj
		f, g    []int
	}{
		{many(41), x, x, make([]int, 41), make([]int, 41)},
		{many(41), bad, x, nil, nil},
		{api.Obj{}, many(20), many(21), nil, nil},
		{x, many(40), x, []int{0}, []int{0}},
		{x, x, many(40), []int{0}, []int{0}},
		{x, many(41), api.Obj{}, nil, nil},
		{x, api.Obj{}, many(41), nil, nil},
		{x, bad, many(39), []int{-1}, nil},
		{bad, many(21), many(20), nil, nil},
	} {
		if q, i, j, err := Push(c.a, c.b, c.c, c.f, c.g); err != api.ErrLarge || !isNothing(q, i, j) {
			t.Errorf("Push of %d, %d, %d: %v, %v, %v, %v", len(c.a.Labels), len(c.b.Labels), len(c.c.Labels), q, i, j, err)
		}
	}
}

func TestPushOfNoArrows(t *testing.T) { // P7.2
	refused := func(a, b, c api.Obj, f, g []int) {
		t.Helper()
		for range 2 {
			if q, i, j, err := Push(a, b, c, f, g); err != api.ErrForm || !isNothing(q, i, j) {
				t.Errorf("Push of %v, %v, %v, %v, %v: %v, %v, %v, %v", a, b, c, f, g, q, i, j, err)
			}
			b, c, f, g = c, b, g, f
		}
	}
	x, xy := objOf("x"), objOf("xy")
	for _, bad := range illFormed() {
		refused(x, bad, x, []int{0}, []int{0})
		refused(bad, row("xyz"), row("xyz"), from(0, len(bad.Labels)), from(0, len(bad.Labels)))
		refused(api.Obj{}, bad, x, nil, nil)
		refused(api.Obj{}, bad, bad, nil, nil)
	}
	for _, n := range append(wrong, 2, 3) {
		refused(x, xy, xy, []int{0}, []int{n})
		refused(x, xy, xy, []int{n}, []int{n})
	}
	refused(x, xy, xy, []int{0}, []int{1})
	refused(x, xy, xy, []int{0}, nil)
	refused(x, xy, xy, []int{0}, []int{0, 0})
	refused(api.Obj{}, xy, xy, nil, []int{0})
	refused(x, xy, api.Obj{}, []int{0}, nil)
	refused(row("xy"), row("xy"), xy, []int{0, 1}, []int{0, 1})
	// An element of the other one: places of the sum, and those ahead of c's own.
	refused(x, xy, xy, []int{2}, []int{0})
	refused(x, xy, xy, []int{0}, []int{-2})
}

// guarded: the same, with spare room behind each list that a call must leave alone.
func guarded(o api.Obj, f []int) (api.Obj, []int, func() bool) {
	labels := append(slices.Clone(o.Labels), "spare", "room")
	pairs := append(slices.Clone(o.Pairs), pairsOf(7, 8, 9, 10)...)
	places := append(slices.Clone(f), 77, 78, 79)
	labels0, pairs0, places0 := slices.Clone(labels), slices.Clone(pairs), slices.Clone(places)
	same := func() bool {
		return slices.Equal(labels, labels0) && slices.Equal(pairs, pairs0) && slices.Equal(places, places0)
	}
	return api.Obj{Labels: labels[:len(o.Labels)], Pairs: pairs[:len(o.Pairs)]}, places[:len(f)], same
}

// spoil writes over all of a list, its spare room too.
func spoil[T any](l []T, value T) {
	for i := range l[:cap(l)] {
		l[:cap(l)][i] = value
	}
}

func spoilAll(q api.Obj, i, j []int) {
	spoil(q.Labels, "spoilt")
	spoil(q.Pairs, api.Pair{A: -7, B: -7})
	spoil(i, -7)
	spoil(j, -8)
}

func TestNothingIsSharedOrChanged(t *testing.T) { // P7.1, P7.2
	a, f, sameA := guarded(row("xy"), []int{0, 2})
	b, g, sameB := guarded(row("xby"), []int{1, 2})
	c, _, sameC := guarded(row("cxy"), nil)
	same := func(what string) {
		t.Helper()
		if !sameA() || !sameB() || !sameC() {
			t.Errorf("%s changes what is handed in", what)
		}
	}
	calls := map[string]func() (api.Obj, []int, []int, api.Errno){
		"Push":          func() (api.Obj, []int, []int, api.Errno) { return Push(a, b, c, f, g) },
		"Sum":           func() (api.Obj, []int, []int, api.Errno) { return Sum(b, c) },
		"Sum, b alone":  func() (api.Obj, []int, []int, api.Errno) { return Sum(b, api.Obj{}) },
		"Sum, c alone":  func() (api.Obj, []int, []int, api.Errno) { return Sum(api.Obj{}, c) },
		"Push, b alone": func() (api.Obj, []int, []int, api.Errno) { return Push(api.Obj{}, b, api.Obj{}, nil, nil) },
		"Push, c alone": func() (api.Obj, []int, []int, api.Errno) { return Push(api.Obj{}, api.Obj{}, c, nil, nil) },
		"Equal": func() (api.Obj, []int, []int, api.Errno) {
			q, where, err := Equal(a, b, f, f)
			return q, where, nil, err
		},
	}
	for what, call := range calls {
		q, i, j, err := call()
		if err != api.OK {
			t.Errorf("%s: %v", what, err)
		}
		want, wantI, wantJ := obj.Copy(q), slices.Clone(i), slices.Clone(j)
		spoil(i, -7)
		if !obj.Same(q, want) || !slices.Equal(j, wantJ) {
			t.Errorf("%s: lists of one answer share memory: %v", what, j)
		}
		spoilAll(q, i, j)
		same(what)
		if q, i, j, _ := call(); !obj.Same(q, want) || !slices.Equal(i, wantI) || !slices.Equal(j, wantJ) {
			t.Errorf("%s answers otherwise when it is asked again: %v, %v, %v", what, q, i, j)
		}
	}
}

func TestClassesAreLeftAndGoneThroughAgain(t *testing.T) {
	one := union.New(3)
	one.Join(0, 2)
	all := classes(one)
	for place, class := range all {
		if place != 0 || !slices.Equal(class, []int{0, 2}) {
			t.Errorf("the first class: %d, %v", place, class)
		}
		break
	}
	count := 0
	for place := range all {
		for range all {
			count++
		}
		if place*2+2 != count {
			t.Errorf("class %d: %d", place, count)
		}
	}
	if count != 4 {
		t.Errorf("two classes, gone through in one another: %d", count)
	}
}

// randomObj: n elements, labels of two kinds, pairs as they come and those that follow of them.
func randomObj(random *rand.Rand, n int) api.Obj {
	o := api.Obj{}
	ahead := make([][]bool, n)
	for i := range ahead {
		o.Labels = append(o.Labels, string(rune('x'+random.Intn(2))))
		ahead[i] = make([]bool, n)
	}
	for range random.Intn(n + 2) {
		if a, b := random.Intn(n+1), random.Intn(n+1); a < n && b < n && (a < b || random.Intn(8) == 0) {
			ahead[a][b] = true
		}
	}
	o.Pairs = closed(ahead)
	return o
}

// closed: the pairs of what is ahead by ways of one step or more.
func closed(ahead [][]bool) []api.Pair {
	for k := range ahead {
		for a := range ahead {
			for b := range ahead {
				ahead[a][b] = ahead[a][b] || ahead[a][k] && ahead[k][b]
			}
		}
	}
	var l []api.Pair
	for a := range ahead {
		for b := range ahead {
			if ahead[a][b] {
				l = append(l, api.Pair{A: a, B: b})
			}
		}
	}
	return l
}

// arrowsFrom: all arrows from a to b.
func arrowsFrom(a, b api.Obj) [][]int {
	var found [][]int
	f := make([]int, len(a.Labels))
	var fill func(int)
	fill = func(x int) {
		if x == len(f) {
			if arrow.Is(a, b, f) {
				found = append(found, slices.Clone(f))
			}
			return
		}
		for place := range b.Labels {
			f[x] = place
			fill(x + 1)
		}
	}
	fill(0)
	return found
}

// folded: what fold answers, by the plainest means.
func folded(b api.Obj, f, g []int) (api.Obj, []int) {
	least := from(0, len(b.Labels))
	for range b.Labels {
		for x := range f {
			l := min(least[f[x]], least[g[x]])
			least[f[x]], least[g[x]] = l, l
		}
	}
	where := make([]int, len(least))
	q := api.Obj{}
	for e, l := range least {
		if l == e {
			where[e] = len(q.Labels)
			q.Labels = append(q.Labels, b.Labels[e])
		}
		where[e] = where[l]
	}
	ahead := make([][]bool, len(q.Labels))
	for i := range ahead {
		ahead[i] = make([]bool, len(ahead))
	}
	for _, p := range b.Pairs {
		ahead[where[p.A]][where[p.B]] = true
	}
	q.Pairs = closed(ahead)
	return q, where
}

func TestEqualAgainstTheWords(t *testing.T) { // P7.1
	random := rand.New(rand.NewSource(71))
	done := 0
	for range 1000 {
		a, b := randomObj(random, random.Intn(4)), randomObj(random, random.Intn(6))
		arrows := arrowsFrom(a, b)
		if len(arrows) == 0 {
			continue
		}
		f, g := arrows[random.Intn(len(arrows))], arrows[random.Intn(len(arrows))]
		q, where, err := Equal(a, b, f, g)
		want, wantWhere := folded(b, f, g)
		if err != api.OK || !obj.Same(q, want) || !slices.Equal(where, wantWhere) {
			t.Fatalf("Equal of %v, %v, %v, %v: %v, %v, %v, want %v, %v", a, b, f, g, q, where, err, want, wantWhere)
		}
		done++
	}
	if done < 200 {
		t.Errorf("only %d were asked", done)
	}
}

// backTo: of each element of the one the element of the other that stands for the same of b's and c's; false, if there is more than one.
func backTo(n int, i, j, otherI, otherJ []int) ([]int, bool) {
	back := make([]int, n)
	for x := range back {
		back[x] = -1
	}
	to := slices.Concat(otherI, otherJ)
	for x, place := range slices.Concat(i, j) {
		if back[place] >= 0 && back[place] != to[x] {
			return nil, false
		}
		back[place] = to[x]
	}
	return back, true
}

func TestBothWaysRound(t *testing.T) { // P7.2, P7.3
	random := rand.New(rand.NewSource(73))
	done := 0
	for range 1500 {
		a := randomObj(random, random.Intn(4))
		b, c := randomObj(random, random.Intn(6)), randomObj(random, random.Intn(6))
		into, intoC := arrowsFrom(a, b), arrowsFrom(a, c)
		if len(into) == 0 || len(intoC) == 0 {
			continue
		}
		f, g := into[random.Intn(len(into))], intoC[random.Intn(len(intoC))]
		q, i, j, err := Push(a, b, c, f, g)
		if err != api.OK || !arrow.Is(b, q, i) || !arrow.Is(c, q, j) {
			t.Fatalf("Push of %v, %v, %v, %v, %v: %v, %v, %v, %v", a, b, c, f, g, q, i, j, err)
		}
		expectByParts(t, a, b, c, f, g)
		over, ok := arrow.Then(f, i)
		overC, okC := arrow.Then(g, j)
		if !ok || !okC || !arrow.Same(over, overC) {
			t.Fatalf("from %v by b: %v, by c: %v", a, over, overC)
		}
		q2, j2, i2, err := Push(a, c, b, g, f)
		there, ok := backTo(len(q.Labels), i, j, i2, j2)
		back, ok2 := backTo(len(q2.Labels), i2, j2, i, j)
		if err != api.OK || !ok || !ok2 || !arrow.Inverse(q, q2, there, back) {
			t.Fatalf("Push of %v, %v, %v, %v, %v: %v, the other way round %v", a, b, c, f, g, q, q2)
		}
		done++
	}
	if done < 200 {
		t.Errorf("only %d were asked", done)
	}
}

// expectByParts holds Push against Equal of a and Sum.
func expectByParts(t *testing.T, a, b, c api.Obj, f, g []int) {
	t.Helper()
	sum, inB, inC, err := Sum(b, c)
	if err != api.OK || !arrow.Is(b, sum, inB) || !arrow.Is(c, sum, inC) {
		t.Fatalf("Sum of %v, %v: %v, %v", b, c, sum, err)
	}
	byB, _ := arrow.Then(f, inB)
	byC, _ := arrow.Then(g, inC)
	want, where, err := Equal(a, sum, byB, byC)
	q, i, j, err2 := Push(a, b, c, f, g)
	if err != err2 || !obj.Same(q, want) || !slices.Equal(slices.Concat(i, j), where) {
		t.Fatalf("Push of %v, %v, %v, %v, %v: %v, %v, %v, want %v, %v", a, b, c, f, g, q, i, j, want, where)
	}
}
