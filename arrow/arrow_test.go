package arrow

import (
	"math"
	"math/rand"
	"slices"
	"strings"
	"testing"

	"cento/api"
)

// wrong: numbers that are a place of no object.
var wrong = []int{math.MinInt, math.MinInt32, -64, -1, 40, 41, 200, 1 << 32, math.MaxInt}

// pairsOf: 0, 1, 1, 2 is 0 ahead of 1, 1 ahead of 2.
func pairsOf(numbers ...int) []api.Pair {
	var l []api.Pair
	for i := 0; i < len(numbers); i += 2 {
		l = append(l, api.Pair{A: numbers[i], B: numbers[i+1]})
	}
	return l
}

// objOf: a label a letter.
func objOf(labels string, numbers ...int) api.Obj {
	o := api.Obj{Pairs: pairsOf(numbers...)}
	for _, label := range labels {
		o.Labels = append(o.Labels, string(label))
	}
	return o
}

// row: each element is ahead of all behind it.
func row(labels string) api.Obj {
	o := objOf(labels)
	for a := range o.Labels {
		for b := a + 1; b < len(o.Labels); b++ {
			o.Pairs = append(o.Pairs, api.Pair{A: a, B: b})
		}
	}
	return o
}

// circle: each element is ahead of each.
func circle(labels string) api.Obj {
	o := objOf(labels)
	for a := range o.Labels {
		for b := range o.Labels {
			o.Pairs = append(o.Pairs, api.Pair{A: a, B: b})
		}
	}
	return o
}

// count: 0, 1, .., not asked of Identity, which is tested itself.
func count(n int) []int {
	var l []int
	for i := range n {
		l = append(l, i)
	}
	return l
}

// backwards: n-1, .., 1, 0.
func backwards(n int) []int {
	l := count(n)
	slices.Reverse(l)
	return l
}

// guarded: the same places, with spare room behind them that a call must leave alone.
func guarded(f []int) (list []int, untouched func() bool) {
	room := append(slices.Clone(f), 77, 78, 79)
	before := slices.Clone(room)
	return room[:len(f)], func() bool { return slices.Equal(room, before) }
}

// spoil writes over all of a list, its spare room too.
func spoil(l []int) {
	for i := range l[:cap(l)] {
		l[:cap(l)][i] = -7
	}
}

func deepCopy(o api.Obj) api.Obj {
	return api.Obj{Labels: slices.Clone(o.Labels), Pairs: slices.Clone(o.Pairs)}
}

func alike(a, b api.Obj) bool {
	return slices.Equal(a.Labels, b.Labels) && slices.Equal(a.Pairs, b.Pairs)
}

// expectIs asks Is, and holds what was handed in against itself.
func expectIs(t *testing.T, what string, a, b api.Obj, f []int, want bool) {
	t.Helper()
	list, untouched := guarded(f)
	a0, b0 := deepCopy(a), deepCopy(b)
	if got := Is(a, b, list); got != want {
		t.Errorf("P5.1: %s: Is of %v, %v by %v is %v", what, a, b, f, got)
	}
	if !untouched() || !alike(a, a0) || !alike(b, b0) {
		t.Errorf("P5.1: %s: what was handed in is changed", what)
	}
}

func TestIs(t *testing.T) { // P5.1
	cases := []struct {
		what string
		a, b api.Obj
		f    []int
		want bool
	}{
		{"of nothing to nothing", objOf(""), objOf(""), nil, true},
		{"of nothing", objOf(""), row("xy"), []int{}, true},
		{"of something to nothing", objOf("x"), objOf(""), nil, false},
		{"of something to nothing, with a place", objOf("x"), objOf(""), []int{0}, false},
		{"a place too many", objOf(""), objOf("x"), []int{0}, false},
		{"a place too many of more", objOf("xy"), objOf("xy"), []int{0, 1, 1}, false},
		{"a place too few", objOf("xy"), objOf("xy"), []int{0}, false},
		{"none of its places", objOf("xy"), objOf("xy"), nil, false},
		{"a place too few that is ahead", row("xy"), row("xy"), []int{0}, false},
		{"the same", row("xy"), row("xy"), []int{0, 1}, true},
		{"one past the last", objOf("xx"), objOf("xx"), []int{0, 2}, false},
		{"ahead of the first", objOf("xx"), objOf("xx"), []int{-1, 1}, false},
		{"another label", objOf("xy"), objOf("xz"), []int{0, 1}, false},
		{"labels the other way round", objOf("xy"), objOf("yx"), []int{0, 1}, false},
		{"turned with its labels", objOf("xy"), objOf("yx"), []int{1, 0}, true},
		{"the label is another one at the last", objOf("xxy"), objOf("xx"), []int{0, 1, 1}, false},
		{"who is ahead more in b", objOf("xy"), row("xy"), []int{0, 1}, true},
		{"who is ahead less in b", row("xy"), objOf("xy"), []int{0, 1}, false},
		{"who is ahead is behind in b", row("xy"), row("yx"), []int{1, 0}, false},
		{"into a circle", row("xy"), circle("yx"), []int{1, 0}, true},
		{"out of a circle", circle("xx"), row("xx"), []int{0, 1}, false},
		{"a circle to one ahead of itself", circle("xx"), circle("x"), []int{0, 0}, true},
		{"two to one", objOf("xx"), objOf("x"), []int{0, 0}, true},
		{"two in a row to one", row("xx"), objOf("x"), []int{0, 0}, false},
		{"two in a row to one ahead of itself", row("xx"), circle("x"), []int{0, 0}, true},
		{"with one between", row("xy"), row("xzy"), []int{0, 2}, true},
		{"the last pair alone is lost", row("xyz"), objOf("xyz", 0, 1, 0, 2), []int{0, 1, 2}, false},
		{"the first pair alone is lost", row("xyz"), objOf("xyz", 0, 2, 1, 2), []int{0, 1, 2}, false},
		{"ahead of itself, and not in b", circle("x"), objOf("x"), []int{0}, false},
		{"the greatest", row(strings.Repeat("x", 40)), row(strings.Repeat("x", 40)), count(40), true},
		{"the greatest, backwards", row(strings.Repeat("x", 40)), row(strings.Repeat("x", 40)), backwards(40), false},
		{"the greatest circle, backwards", circle(strings.Repeat("x", 40)), circle(strings.Repeat("x", 40)), backwards(40), true},
		{"an empty label", api.Obj{Labels: []string{""}}, api.Obj{Labels: []string{""}}, []int{0}, true},
		{"an empty label and another", api.Obj{Labels: []string{""}}, objOf("x"), []int{0}, false},
	}
	for _, c := range cases {
		expectIs(t, c.what, c.a, c.b, c.f, c.want)
	}
	for _, x := range wrong {
		all := objOf(strings.Repeat("x", 40))
		expectIs(t, "no place", objOf("x"), all, []int{x}, false)
		expectIs(t, "no place behind others", row("xxx"), circle(strings.Repeat("x", 40)), []int{0, 1, x}, false)
		expectIs(t, "no place of nothing", objOf("x"), objOf(""), []int{x}, false)
	}
}

func TestIsOfNoObjects(t *testing.T) { // P5.1
	long := api.Obj{Labels: []string{strings.Repeat("x", api.MaxLine+1)}}
	for _, c := range []struct {
		o api.Obj
		f []int
	}{
		{objOf("", 0, 0), nil},
		{objOf("xyz", 0, 1, 1, 2), []int{0, 1, 2}},
		{objOf("xyz", 0, 2, 0, 1), []int{0, 1, 2}},
		{objOf("xy", 0, 1, 0, 1), []int{0, 1}},
		{objOf("xy", 0, 2), []int{0, 1}},
		{objOf("xy", -1, 0), []int{0, 1}},
		{objOf("xy", math.MinInt, math.MaxInt), []int{0, 1}},
		{objOf(strings.Repeat("x", 41)), count(41)},
		{long, []int{0}},
	} {
		expectIs(t, "both are no object", c.o, c.o, c.f, false)
		good := api.Obj{Labels: c.o.Labels}
		if len(good.Labels) > 40 {
			good.Labels = good.Labels[:40]
		}
		f := c.f[:len(good.Labels)]
		expectIs(t, "b is no object", good, c.o, f, false)
		expectIs(t, "a is no object", c.o, good, c.f, false)
		expectIs(t, "from nothing to what is no object", objOf(""), c.o, nil, false)
	}
}

func TestThen(t *testing.T) { // P5.1
	type maps struct {
		what       string
		f, g, want []int
		ok         bool
	}
	far := []int{math.MinInt, math.MaxInt, -1}
	cases := []maps{
		{"the example", []int{1, 0}, []int{1, 0}, []int{0, 1}, true},
		{"nothing", nil, nil, nil, true},
		{"nothing, empty", []int{}, []int{}, nil, true},
		{"nothing behind something", nil, []int{5}, nil, true},
		{"f ahead of g", []int{1, 2, 0}, []int{0, 2, 1}, []int{2, 1, 0}, true},
		{"g ahead of f", []int{0, 2, 1}, []int{1, 2, 0}, []int{1, 0, 2}, true},
		{"g's places are asked of nobody", []int{2, 1, 0, 0}, far, []int{-1, math.MaxInt, math.MinInt, math.MinInt}, true},
		{"g is longer", []int{3}, []int{9, 8, 7, 6, 5}, []int{6}, true},
		{"g is shorter", []int{1, 1, 0, 1}, []int{4, 3}, []int{3, 3, 4, 3}, true},
		{"the last place", []int{1}, []int{4, 3}, []int{3}, true},
		{"one past it", []int{2}, []int{4, 3}, nil, false},
		{"one past it behind others", []int{0, 1, 2}, []int{4, 3}, nil, false},
		{"ahead of the first", []int{-1, 0}, []int{4, 3}, nil, false},
		{"g has none", []int{0}, nil, nil, false},
		{"longer than an object", backwards(100), backwards(100), count(100), true},
	}
	for _, x := range wrong {
		cases = append(cases, maps{"no place", []int{0, x}, count(40), nil, false})
	}
	for _, c := range cases {
		f, same := guarded(c.f)
		g, sameToo := guarded(c.g)
		got, ok := Then(f, g)
		if ok != c.ok || !slices.Equal(got, c.want) {
			t.Errorf("P5.1: %s: %v, %v, want %v, %v", c.what, got, ok, c.want, c.ok)
		}
		if !ok && got != nil {
			t.Errorf("P5.1: %s: beside a false: %v", c.what, got)
		}
		spoil(got)
		if !same() || !sameToo() {
			t.Errorf("P5.1: %s: what was handed in is touched", c.what)
		}
	}
}

func TestThenStandsAlone(t *testing.T) { // P5.1
	f, g := []int{1, 0}, []int{1, 0}
	first, _ := Then(f, g)
	second, _ := Then(f, g)
	spoil(first)
	spoil(f)
	spoil(g)
	if !slices.Equal(second, []int{0, 1}) {
		t.Errorf("P5.1: an answer is touched: %v", second)
	}
	same := []int{2, 0, 1}
	if got, ok := Then(same, same); !ok || !slices.Equal(got, []int{1, 2, 0}) || !slices.Equal(same, []int{2, 0, 1}) {
		t.Errorf("P5.1: a map behind itself: %v, %v, %v", got, ok, same)
	}
}

func TestIdentity(t *testing.T) { // P5.1
	for n, want := range map[int]int{math.MinInt: 0, -41: 0, -1: 0, 0: 0, 1: 1, 2: 2, 39: 39, 40: 40, 41: 40, 200: 40, 1 << 32: 40, math.MaxInt: 40} {
		got, other := Identity(n), Identity(n)
		if !slices.Equal(got, count(want)) {
			t.Errorf("P5.1: Identity(%d) is %v", n, got)
		}
		spoil(got)
		if !slices.Equal(other, count(want)) || !slices.Equal(Identity(n), count(want)) {
			t.Errorf("P5.1: Identity(%d): an answer is touched", n)
		}
	}
}

func TestSame(t *testing.T) { // P5.1
	groups := [][][]int{
		{nil, {}},
		{{0}, {0}},
		{{1}},
		{{-1}},
		{{0, 0}},
		{{0, 1}, {0, 1}},
		{{1, 0}},
		{{0, 1, 2}},
		{{0, 1, 3}},
		{{math.MinInt, math.MaxInt}, {math.MinInt, math.MaxInt}},
		{count(100), count(100)},
		{count(101)},
	}
	for i, group := range groups {
		for j, others := range groups {
			for _, f := range group {
				for _, g := range others {
					if Same(f, g) != (i == j) {
						t.Errorf("P5.1: Same of %v and %v is %v", f, g, i != j)
					}
				}
			}
		}
	}
}

func TestInjective(t *testing.T) { // P5.1
	cases := []struct {
		f    []int
		want bool
	}{
		{nil, true},
		{[]int{}, true},
		{[]int{0}, true},
		{[]int{7, 3, 5}, true},
		{[]int{0, 0}, false},
		{[]int{5, 4, 5}, false},
		{[]int{5, 5, 4}, false},
		{[]int{4, 5, 5}, false},
		{[]int{-1, 1}, true},
		{[]int{-1, 1, -1}, false},
		{wrong, true},
		{append(slices.Clone(wrong), math.MinInt), false},
		{append(slices.Clone(wrong), math.MaxInt), false},
		{[]int{math.MaxInt, math.MinInt, 0}, true},
		{[]int{0, 1 << 32, 64, 128}, true},
		{backwards(1000), true},
		{append(backwards(1000), 500), false},
	}
	for _, c := range cases {
		list, untouched := guarded(c.f)
		if got := Injective(list); got != c.want {
			t.Errorf("P5.1: Injective of %v is %v", c.f, got)
		}
		if !untouched() {
			t.Errorf("P5.1: Injective: %v became %v", c.f, list)
		}
	}
}

func TestInverse(t *testing.T) { // P5.1
	type ways struct {
		what string
		a, b api.Obj
		f, g []int
		want bool
	}
	forty := strings.Repeat("x", 40)
	cases := []ways{
		{"nothing", objOf(""), objOf(""), nil, []int{}, true},
		{"the same", row("xy"), row("xy"), []int{0, 1}, []int{0, 1}, true},
		{"turned", objOf("xx"), objOf("xx"), []int{1, 0}, []int{1, 0}, true},
		{"turned there alone", objOf("xx"), objOf("xx"), []int{1, 0}, []int{0, 1}, false},
		{"turned back alone", objOf("xx"), objOf("xx"), []int{0, 1}, []int{1, 0}, false},
		{"three in a round", objOf("xxx"), objOf("xxx"), []int{1, 2, 0}, []int{2, 0, 1}, true},
		{"three in a round, twice", objOf("xxx"), objOf("xxx"), []int{1, 2, 0}, []int{1, 2, 0}, false},
		{"the same against the numbers", row("xy"), objOf("yx", 1, 0), []int{1, 0}, []int{1, 0}, true},
		{"b has more", objOf("x"), objOf("xx"), []int{1}, []int{0, 0}, false},
		{"a has more", objOf("xx"), objOf("x"), []int{0, 0}, []int{1}, false},
		{"of nothing to something", objOf(""), objOf("x"), nil, nil, false},
		{"there is an arrow, back is none", objOf("xy"), row("xy"), []int{0, 1}, []int{0, 1}, false},
		{"back is an arrow, there is none", row("xy"), objOf("xy"), []int{0, 1}, []int{0, 1}, false},
		{"other labels", objOf("xy"), objOf("xz"), []int{0, 1}, []int{0, 1}, false},
		{"no way back", objOf("xx"), objOf("xx"), []int{0, 1}, nil, false},
		{"no way there", objOf("xx"), objOf("xx"), nil, []int{0, 1}, false},
		{"a way too long", objOf("x"), objOf("x"), []int{0, 0}, []int{0}, false},
		{"no objects", objOf("xy", 0, 1, 0, 1), objOf("xy", 0, 1, 0, 1), []int{0, 1}, []int{0, 1}, false},
		{"too large", objOf(forty + "x"), objOf(forty + "x"), count(41), count(41), false},
		{"the greatest", objOf(forty), objOf(forty), backwards(40), backwards(40), true},
		{"the greatest, two changed", objOf(forty), objOf(forty), backwards(40), append(backwards(40)[:38], 0, 1), false},
	}
	for _, x := range wrong {
		one := objOf("x")
		cases = append(cases, ways{"no place there", one, one, []int{x}, []int{0}, false}, ways{"no place back", one, one, []int{0}, []int{x}, false})
	}
	for _, c := range cases {
		f, same := guarded(c.f)
		g, sameToo := guarded(c.g)
		a, b := deepCopy(c.a), deepCopy(c.b)
		if got := Inverse(c.a, c.b, f, g); got != c.want {
			t.Errorf("P5.1: %s: Inverse is %v", c.what, got)
		}
		if got := Inverse(c.b, c.a, g, f); got != c.want {
			t.Errorf("P5.1: %s: Inverse the other way round is %v", c.what, got)
		}
		if !same() || !sameToo() || !alike(a, c.a) || !alike(b, c.b) {
			t.Errorf("P5.1: %s: what was handed in is changed", c.what)
		}
	}
}

// randomObj: few labels, so that many maps keep them; its pairs are closed step by step.
func randomObj(random *rand.Rand, n int) api.Obj {
	o := api.Obj{}
	ahead := make([][]bool, n)
	for i := range n {
		o.Labels = append(o.Labels, "xxy"[random.Intn(3):][:1])
		ahead[i] = make([]bool, n)
	}
	if n > 0 {
		for range random.Intn(n + 2) {
			ahead[random.Intn(n)][random.Intn(n)] = true
		}
	}
	for m := range n {
		for a := range n {
			for b := range n {
				ahead[a][b] = ahead[a][b] || ahead[a][m] && ahead[m][b]
			}
		}
	}
	for a := range n {
		for b := range n {
			if ahead[a][b] {
				o.Pairs = append(o.Pairs, api.Pair{A: a, B: b})
			}
		}
	}
	return o
}

// isArrow: the promise's words, of what is an object.
func isArrow(a, b api.Obj, f []int) bool {
	if len(f) != len(a.Labels) {
		return false
	}
	for i, label := range a.Labels {
		if f[i] < 0 || f[i] >= len(b.Labels) || b.Labels[f[i]] != label {
			return false
		}
	}
	for _, p := range a.Pairs {
		if !slices.Contains(b.Pairs, api.Pair{A: f[p.A], B: f[p.B]}) {
			return false
		}
	}
	return true
}

// everyMap: all maps of n places to those from 0 to m-1.
func everyMap(n, m int) [][]int {
	all := [][]int{{}}
	for range n {
		var longer [][]int
		for _, f := range all {
			for place := range m {
				longer = append(longer, append(slices.Clone(f), place))
			}
		}
		all = longer
	}
	return all
}

// TestArrowsBehindArrows plays random small objects, and all maps between them, against the promises' words.
func TestArrowsBehindArrows(t *testing.T) { // P5.1, P5.2
	random := rand.New(rand.NewSource(5))
	arrows, inverses := 0, 0
	for range 3000 {
		a, b, c := randomObj(random, random.Intn(4)), randomObj(random, random.Intn(4)), randomObj(random, random.Intn(4))
		if !Is(a, a, Identity(len(a.Labels))) {
			t.Fatalf("P5.1: Identity is no arrow of %v", a)
		}
		for _, f := range everyMap(len(a.Labels), len(b.Labels)) {
			isF := isArrow(a, b, f)
			if Is(a, b, f) != isF {
				t.Fatalf("P5.1: Is of %v, %v by %v is %v", a, b, f, !isF)
			}
			for _, g := range everyMap(len(b.Labels), len(a.Labels)) {
				want := isF && isArrow(b, a, g)
				for i := range f {
					want = want && g[f[i]] == i
				}
				for i := range g {
					want = want && f[g[i]] == i
				}
				if Inverse(a, b, f, g) != want {
					t.Fatalf("P5.1: Inverse of %v, %v by %v, %v is %v", a, b, f, g, !want)
				}
				if want {
					inverses++
				}
			}
			for _, g := range everyMap(len(b.Labels), len(c.Labels)) {
				h, ok := Then(f, g)
				if !ok {
					t.Fatalf("P5.1: Then of %v and %v is false", f, g)
				}
				if isF && isArrow(b, c, g) {
					arrows++
					if !Is(a, c, h) {
						t.Fatalf("P5.2: %v, %v, %v: %v behind %v is no arrow", a, b, c, g, f)
					}
				}
			}
		}
	}
	if arrows < 100 || inverses < 50 {
		t.Errorf("too few: %d arrows behind arrows, %d inverses", arrows, inverses)
	}
}

// TestRandomMaps: Then and Injective against their words, with places that g hasn't.
func TestRandomMaps(t *testing.T) { // P5.1
	random := rand.New(rand.NewSource(55))
	for range 2000 {
		f, g := make([]int, random.Intn(6)), make([]int, random.Intn(9))
		for i := range f {
			f[i] = random.Intn(10) - 1
		}
		for i := range g {
			g[i] = random.Intn(100) - 50
		}
		var want []int
		ok, once := true, true
		for i, place := range f {
			once = once && !slices.Contains(f[:i], place)
			if place < 0 || place >= len(g) {
				ok = false
			} else {
				want = append(want, g[place])
			}
		}
		if !ok {
			want = nil
		}
		if got, gotOK := Then(f, g); gotOK != ok || !slices.Equal(got, want) {
			t.Fatalf("P5.1: Then of %v, %v is %v, %v", f, g, got, gotOK)
		}
		if Injective(f) != once {
			t.Fatalf("P5.1: Injective of %v is %v", f, !once)
		}
	}
}
