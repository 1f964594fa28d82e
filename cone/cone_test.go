package cone

import (
	"math"
	"math/rand"
	"slices"
	"strings"
	"testing"

	"cento/api"
	"cento/arrow"
	"cento/push"
)

// wrong: numbers that are a place of no object.
var wrong = []int{math.MinInt, math.MinInt32, -64, -1, 40, 41, 200, 1 << 32, math.MaxInt}

// objOf: a label a letter; 0, 1, 1, 2 is 0 ahead of 1, 1 ahead of 2.
func objOf(labels string, numbers ...int) api.Obj {
	o := api.Obj{}
	for _, label := range labels {
		o.Labels = append(o.Labels, string(label))
	}
	for i := 0; i < len(numbers); i += 2 {
		o.Pairs = append(o.Pairs, api.Pair{A: numbers[i], B: numbers[i+1]})
	}
	return o
}

// many: n elements with the same label, in no order.
func many(n int) api.Obj { return objOf(strings.Repeat("x", n)) }

// row: each element is ahead of all behind it.
func row(labels string) api.Obj {
	o := objOf(labels)
	for a := range o.Labels {
		for b := a + 1; b < len(o.Labels); b++ {
			o.Pairs = append(o.Pairs, api.Pair{A: a, B: b})
		}
	}
	return o
}

// circle: each element is ahead of each.
func circle(labels string) api.Obj {
	o := objOf(labels)
	for a := range o.Labels {
		for b := range o.Labels {
			o.Pairs = append(o.Pairs, api.Pair{A: a, B: b})
		}
	}
	return o
}

// from: first, first+1, .., n of them.
func from(first, n int) []int {
	var l []int
	for i := range n {
		l = append(l, first+i)
	}
	return l
}

// illFormed: what is no object, each with a label x at its beginning.
func illFormed() []api.Obj {
	long := objOf("xy")
	long.Labels[1] = strings.Repeat("y", api.MaxLine+1)
	l := []api.Obj{
		long,
		objOf("xy", 0, 1, 0, 1),
		objOf("xy", 1, 0, 0, 1),
		objOf("xyz", 0, 1, 1, 2),
		objOf("xy", 0, 1, 1, 0),
	}
	for _, n := range append(wrong, 2) {
		l = append(l, objOf("xy", 0, n), objOf("xy", n, 1))
	}
	return l
}

// corner: a in b and in c, by f and g, and ways on to d, by h and k.
type corner struct {
	a, b, c api.Obj
	f, g    []int
	d       api.Obj
	h, k    []int
}

func (s corner) mediate() ([]int, api.Errno) { return Mediate(s.a, s.b, s.c, s.f, s.g, s.d, s.h, s.k) }
func (s corner) cocone() bool                { return Cocone(s.a, s.b, s.c, s.f, s.g, s.d, s.h, s.k) }
func (s corner) swap() ([]int, []int, api.Errno) {
	return Swap(s.a, s.b, s.c, s.f, s.g)
}
func (s corner) push() (api.Obj, []int, []int, api.Errno) {
	return push.Push(s.a, s.b, s.c, s.f, s.g)
}

// turned: b and c exchanged.
func (s corner) turned() corner {
	return corner{s.a, s.c, s.b, s.g, s.f, s.d, s.k, s.h}
}

// expect holds both calls, b and c exchanged too, against what they ought to tell: a cocone just where there is no error.
func (s corner) expect(t *testing.T, what string, want api.Errno) {
	t.Helper()
	for range 2 {
		if u, err := s.mediate(); err != want || err != api.OK && len(u) > 0 {
			t.Errorf("Mediate, %s: %v, %v of %v", what, u, err, s)
		}
		if s.cocone() != (want == api.OK) {
			t.Errorf("Cocone, %s: of %v", what, s)
		}
		s = s.turned()
	}
}

func TestMediate(t *testing.T) { // P8.1
	x := objOf("x")
	for _, c := range []struct {
		what string
		s    corner
		u    []int
	}{
		{"of nothing", corner{}, nil},
		{"of nothing to more", corner{d: row("xy")}, nil},
		{"the sum of x and x to x", corner{b: x, c: x, d: x, h: []int{0}, k: []int{0}}, []int{0, 0}},
		{"the sum of x and y", corner{b: x, c: objOf("y"), d: objOf("yx"), h: []int{1}, k: []int{0}}, []int{1, 0}},
		{"the sum to two", corner{b: x, c: x, d: objOf("xx"), h: []int{1}, k: []int{0}}, []int{1, 0}},
		{"b alone", corner{b: row("xy"), d: row("axby"), h: []int{1, 3}}, []int{1, 3}},
		{"c alone", corner{c: row("xy"), d: row("axby"), k: []int{1, 3}}, []int{1, 3}},
		{"all in common", corner{row("xy"), row("xy"), row("xy"), []int{0, 1}, []int{0, 1}, row("xzy"), []int{0, 2}, []int{0, 2}}, []int{0, 2}},
		{"one behind each, in a row", corner{x, row("xb"), row("xc"), []int{0}, []int{0}, row("xcb"), []int{0, 2}, []int{0, 1}}, []int{0, 2, 1}},
		{"one ahead, one behind", corner{x, row("xb"), row("cx"), []int{0}, []int{1}, row("cxb"), []int{1, 2}, []int{0, 1}}, []int{1, 2, 0}},
		{"the contrary to a circle", corner{objOf("xy"), row("xy"), row("yx"), []int{0, 1}, []int{1, 0}, circle("axy"), []int{1, 2}, []int{2, 1}}, []int{1, 2}},
		{"two made one", corner{objOf("xx"), row("xx"), objOf("x", 0, 0), []int{0, 1}, []int{0, 0}, circle("xx"), []int{1, 1}, []int{1}}, []int{1}},
		{"two made one, by c's", corner{objOf("xx"), x, row("xxx"), []int{0, 0}, []int{1, 2}, circle("yxx"), []int{2}, []int{1, 2, 2}}, []int{2, 1}},
	} {
		if u, err := c.s.mediate(); err != api.OK || !slices.Equal(u, c.u) {
			t.Errorf("Mediate, %s: %v, %v", c.what, u, err)
		}
		c.s.expect(t, c.what, api.OK)
	}
}

func TestNoCocone(t *testing.T) { // P8.1
	x, xx := objOf("x"), objOf("xx")
	for _, c := range []struct {
		what string
		s    corner
	}{
		{"both ways end apart", corner{x, x, x, []int{0}, []int{0}, xx, []int{0}, []int{1}}},
		{"one of two ends apart", corner{xx, xx, xx, []int{0, 1}, []int{0, 1}, xx, []int{0, 1}, []int{0, 0}}},
		{"crossed", corner{xx, xx, xx, []int{0, 1}, []int{1, 0}, xx, []int{0, 1}, []int{0, 1}}},
		{"d has nothing", corner{x, x, x, []int{0}, []int{0}, api.Obj{}, nil, nil}},
		{"another label", corner{x, x, x, []int{0}, []int{0}, objOf("y"), []int{0}, []int{0}}},
		{"who is ahead isn't", corner{x, row("xb"), x, []int{0}, []int{0}, objOf("xb"), []int{0, 1}, []int{0}}},
		{"who is ahead is behind", corner{x, row("xb"), x, []int{0}, []int{0}, row("bx"), []int{1, 0}, []int{1}}},
		{"h has one less", corner{b: xx, d: x, h: []int{0}}},
		{"h has one more", corner{b: x, d: x, h: []int{0, 0}}},
		{"h of nothing", corner{d: x, h: []int{0}}},
		{"no h", corner{b: x, c: x, d: x, k: []int{0}}},
	} {
		c.s.expect(t, c.what, api.ErrCone)
	}
	for _, n := range append(wrong, 1, 2) {
		corner{x, x, x, []int{0}, []int{0}, x, []int{n}, []int{n}}.expect(t, "no place of d", api.ErrCone)
	}
	for _, bad := range illFormed() {
		corner{b: x, c: x, d: bad, h: []int{0}, k: []int{0}}.expect(t, "d is no object", api.ErrCone)
		corner{d: bad}.expect(t, "nothing, d is no object", api.ErrCone)
	}
}

// What Mediate tells as Push's errors is no cocone either, also where both ways meet.
func TestCoconeOfNoArrowsFromA(t *testing.T) { // P8.1
	x, y := objOf("x"), objOf("y")
	for _, c := range []struct {
		what string
		s    corner
	}{
		{"f loses who is ahead", corner{row("xy"), objOf("xy"), row("xy"), []int{0, 1}, []int{0, 1}, row("xy"), []int{0, 1}, []int{0, 1}}},
		{"a circle isn't one there", corner{objOf("x", 0, 0), x, objOf("x", 0, 0), []int{0}, []int{0}, objOf("x", 0, 0), []int{0}, []int{0}}},
		{"both lead to another label", corner{x, y, y, []int{0}, []int{0}, y, []int{0}, []int{0}}},
		{"both have one more", corner{x, x, x, []int{0, 0}, []int{0, 0}, x, []int{0}, []int{0}}},
		{"both have nothing", corner{a: x, b: x, c: x, d: x, h: []int{0}, k: []int{0}}},
		{"both are of nothing", corner{b: x, c: x, f: []int{0}, g: []int{0}, d: x, h: []int{0}, k: []int{0}}},
		{"both lead to no place", corner{x, x, x, []int{1}, []int{1}, x, []int{0}, []int{0}}},
	} {
		c.s.expect(t, c.what, api.ErrForm)
	}
	for _, bad := range illFormed() {
		n := len(bad.Labels)
		all, to := from(0, n), circle("xyz"[:n])
		corner{bad, to, to, all, all, to, all, all}.expect(t, "a is no object", api.ErrForm)
		corner{api.Obj{}, bad, to, nil, nil, to, all, all}.expect(t, "b is no object", api.ErrForm)
	}
}

func TestErrorsOfPush(t *testing.T) { // P8.1, P8.2
	x, xy, bad := objOf("x"), objOf("xy"), objOf("xy", 1, 2)
	refused := func(want api.Errno, s corner) {
		t.Helper()
		// d's own faults come behind Push's.
		for _, d := range []api.Obj{x, {}, bad, many(41)} {
			s.d, s.h, s.k = d, make([]int, len(s.b.Labels)), make([]int, len(s.c.Labels))
			s.expect(t, "refused by Push", want)
		}
		for range 2 {
			if there, back, err := s.swap(); err != want || len(there) > 0 || len(back) > 0 {
				t.Errorf("Swap of %v: %v, %v, %v", s, there, back, err)
			}
			s = s.turned()
		}
	}
	for _, bad := range illFormed() {
		refused(api.ErrForm, corner{a: x, b: bad, c: x, f: []int{0}, g: []int{0}})
		refused(api.ErrForm, corner{a: bad, b: row("xyz"), c: row("xyz"), f: from(0, len(bad.Labels)), g: from(0, len(bad.Labels))})
		refused(api.ErrForm, corner{b: bad, c: bad})
	}
	for _, n := range append(wrong, 1, 2) {
		refused(api.ErrForm, corner{a: x, b: xy, c: xy, f: []int{n}, g: []int{0}})
		refused(api.ErrForm, corner{a: x, b: xy, c: xy, f: []int{n}, g: []int{n}})
	}
	refused(api.ErrForm, corner{a: x, b: xy, c: xy, f: []int{0}})
	refused(api.ErrForm, corner{a: x, b: xy, c: xy, f: []int{0, 0}, g: []int{0}})
	refused(api.ErrForm, corner{b: xy, c: xy, g: []int{0}})
	refused(api.ErrForm, corner{a: row("xy"), b: xy, c: xy, f: []int{0, 1}, g: []int{0, 1}})
	refused(api.ErrLarge, corner{a: many(41), b: x, c: x, f: make([]int, 41), g: make([]int, 41)})
	refused(api.ErrLarge, corner{a: many(41), b: bad, c: x})
	refused(api.ErrLarge, corner{a: x, b: bad, c: many(39), f: []int{-1}})
	refused(api.ErrLarge, corner{a: x, b: many(41), f: []int{0}})
}

func TestAtTheLimits(t *testing.T) { // P8.1, P8.2
	// d as large as can be, and one more, which is told ahead of all that isn't a cocone.
	s := corner{b: many(39), c: many(1), d: many(40), h: from(1, 39), k: []int{0}}
	if u, err := s.mediate(); err != api.OK || !slices.Equal(u, append(from(1, 39), 0)) {
		t.Errorf("Mediate to 40: %v, %v", u, err)
	}
	s.d = many(41)
	s.expect(t, "to 41", api.ErrLarge)
	s.h, s.k = nil, []int{-1}
	s.expect(t, "to 41, by no arrows", api.ErrLarge)
	s.d = objOf(strings.Repeat("x", 41), 0, 99)
	s.expect(t, "to 41 that are no object", api.ErrLarge)
	corner{d: many(41)}.expect(t, "nothing to 41", api.ErrLarge)

	// b and c together as large as can be, and one more: Cocone puts nothing together.
	over := corner{many(40), many(20), many(20), make([]int, 40), make([]int, 40), many(1), make([]int, 20), make([]int, 20)}
	if u, err := over.mediate(); err != api.OK || !slices.Equal(u, make([]int, 39)) || !over.cocone() {
		t.Errorf("Mediate of 20 and 20: %v, %v", u, err)
	}
	there, back, err := over.swap()
	if err != api.OK || !arrow.Inverse(many(39), many(39), there, back) {
		t.Errorf("Swap of 20 and 20: %v, %v, %v", there, back, err)
	}
	over.c, over.k = many(21), make([]int, 21)
	if u, err := over.mediate(); err != api.ErrLarge || len(u) > 0 || !over.cocone() {
		t.Errorf("Mediate of 20 and 21: %v, %v", u, err)
	}
	if there, back, err := over.swap(); err != api.ErrLarge || len(there) > 0 || len(back) > 0 {
		t.Errorf("Swap of 20 and 21: %v, %v, %v", there, back, err)
	}
	// Each part of its own as large as can be, and one more.
	whole := corner{many(40), many(40), many(40), from(0, 40), from(0, 40), many(40), from(0, 40), from(0, 40)}
	if !whole.cocone() {
		t.Error("Cocone of 40 each")
	}
	for what, s := range map[string]corner{
		"a":      {a: many(41), b: many(1), c: many(1), f: make([]int, 41), g: make([]int, 41), d: many(1), h: []int{0}, k: []int{0}},
		"b or c": {b: many(41), d: many(1), h: make([]int, 41)},
		"d":      {d: many(41)},
	} {
		if s.cocone() || s.turned().cocone() {
			t.Errorf("Cocone, %s having 41", what)
		}
	}
}

func TestSwap(t *testing.T) { // P8.2
	x := objOf("x")
	for _, c := range []struct {
		what        string
		s           corner
		there, back []int
	}{
		{"of nothing", corner{}, nil, nil},
		{"nothing in common", corner{b: row("ab"), c: x}, []int{1, 2, 0}, []int{2, 0, 1}},
		{"b alone", corner{b: row("ab")}, []int{0, 1}, []int{0, 1}},
		{"c alone", corner{c: row("ab")}, []int{0, 1}, []int{0, 1}},
		{"all in common", corner{a: row("xy"), b: row("xy"), c: row("xy"), f: []int{0, 1}, g: []int{0, 1}}, []int{0, 1}, []int{0, 1}},
		{"one of two in common", corner{a: x, b: row("xb"), c: row("cx"), f: []int{0}, g: []int{1}}, []int{1, 2, 0}, []int{2, 0, 1}},
		{"two made one", corner{a: objOf("xx"), b: objOf("yxx"), c: objOf("zx"), f: []int{1, 2}, g: []int{1, 1}}, []int{2, 1, 0}, []int{2, 1, 0}},
	} {
		there, back, err := c.s.swap()
		if err != api.OK || !slices.Equal(there, c.there) || !slices.Equal(back, c.back) {
			t.Errorf("Swap, %s: %v, %v, %v", c.what, there, back, err)
		}
	}
}

// guarded: the same, with spare room behind each list that a call must leave alone.
func guarded(o api.Obj, f, h []int) (api.Obj, []int, []int, func() bool) {
	labels := append(slices.Clone(o.Labels), "spare", "room")
	pairs := append(slices.Clone(o.Pairs), api.Pair{A: 7, B: 8}, api.Pair{A: 9, B: 10})
	first := append(slices.Clone(f), 77, 78, 79)
	second := append(slices.Clone(h), 80, 81, 82)
	labels0, pairs0, first0, second0 := slices.Clone(labels), slices.Clone(pairs), slices.Clone(first), slices.Clone(second)
	same := func() bool {
		return slices.Equal(labels, labels0) && slices.Equal(pairs, pairs0) && slices.Equal(first, first0) && slices.Equal(second, second0)
	}
	return api.Obj{Labels: labels[:len(o.Labels)], Pairs: pairs[:len(o.Pairs)]}, first[:len(f)], second[:len(h)], same
}

// spoil writes over all of a list, its spare room too.
func spoil(l []int) {
	for i := range l[:cap(l)] {
		l[:cap(l)][i] = -7
	}
}

func TestNothingIsSharedOrChanged(t *testing.T) { // P8.1, P8.2
	s := corner{}
	var sameA, sameB, sameC, sameD func() bool
	s.a, s.f, s.g, sameA = guarded(objOf("xy"), []int{0, 2}, []int{1, 2})
	s.b, s.h, _, sameB = guarded(row("xby"), []int{1, 2, 3}, nil)
	s.c, s.k, _, sameC = guarded(row("cxy"), []int{0, 1, 3}, nil)
	s.d, _, _, sameD = guarded(row("cxby"), nil, nil)
	calls := map[string]func() ([]int, []int, api.Errno){
		"Swap": s.swap,
		"Mediate": func() ([]int, []int, api.Errno) {
			u, err := s.mediate()
			return u, nil, err
		},
		"Cocone": func() ([]int, []int, api.Errno) {
			if !s.cocone() {
				return nil, nil, api.ErrCone
			}
			return nil, nil, api.OK
		},
	}
	for what, call := range calls {
		u, v, err := call()
		if err != api.OK {
			t.Errorf("%s: %v", what, err)
		}
		wantU, wantV := slices.Clone(u), slices.Clone(v)
		spoil(u)
		if !slices.Equal(v, wantV) {
			t.Errorf("%s: lists of one answer share memory: %v", what, v)
		}
		spoil(v)
		if !sameA() || !sameB() || !sameC() || !sameD() {
			t.Errorf("%s changes what is handed in", what)
		}
		if u, v, _ := call(); !slices.Equal(u, wantU) || !slices.Equal(v, wantV) {
			t.Errorf("%s answers otherwise when it is asked again: %v, %v", what, u, v)
		}
	}
}

// randomObj: n elements, labels of two kinds, pairs as they come and those that follow of them.
func randomObj(random *rand.Rand, n int) api.Obj {
	o := api.Obj{}
	ahead := make([][]bool, n)
	for i := range ahead {
		o.Labels = append(o.Labels, string(rune('x'+random.Intn(2))))
		ahead[i] = make([]bool, n)
	}
	for range random.Intn(n + 2) {
		if a, b := random.Intn(n+1), random.Intn(n+1); a < n && b < n && (a < b || random.Intn(8) == 0) {
			ahead[a][b] = true
		}
	}
	for k := range ahead {
		for a := range ahead {
			for b := range ahead {
				ahead[a][b] = ahead[a][b] || ahead[a][k] && ahead[k][b]
			}
		}
	}
	for a := range ahead {
		for b := range ahead {
			if ahead[a][b] {
				o.Pairs = append(o.Pairs, api.Pair{A: a, B: b})
			}
		}
	}
	return o
}

// maps: all lists of n places of an object of m elements.
func maps(n, m int) [][]int {
	l := [][]int{nil}
	for range n {
		var longer [][]int
		for _, f := range l {
			for place := range m {
				longer = append(longer, append(slices.Clone(f), place))
			}
		}
		l = longer
	}
	return l
}

// anyArrow: one of all from a to b; false, if there is none.
func anyArrow(random *rand.Rand, a, b api.Obj) ([]int, bool) {
	var arrows [][]int
	for _, f := range maps(len(a.Labels), len(b.Labels)) {
		if arrow.Is(a, b, f) {
			arrows = append(arrows, f)
		}
	}
	if len(arrows) == 0 {
		return nil, false
	}
	return arrows[random.Intn(len(arrows))], true
}

// anyCorner: one in which f, g, h, k are arrows, whether both ways meet or not.
func anyCorner(random *rand.Rand) (corner, bool) {
	s := corner{a: randomObj(random, random.Intn(3)), b: randomObj(random, random.Intn(4)), c: randomObj(random, random.Intn(4))}
	var okF, okG, okH, okK bool
	s.f, okF = anyArrow(random, s.a, s.b)
	s.g, okG = anyArrow(random, s.a, s.c)
	if !okF || !okG {
		return s, false
	}
	s.d = randomObj(random, random.Intn(5))
	if random.Intn(3) == 0 {
		s.d, _, _, _ = s.push()
	}
	s.h, okH = anyArrow(random, s.b, s.d)
	s.k, okK = anyArrow(random, s.c, s.d)
	return s, okH && okK
}

// meets: whether both ways from a are the same, element by element.
func (s corner) meets() bool {
	for x := range s.a.Labels {
		if s.h[s.f[x]] != s.k[s.g[x]] {
			return false
		}
	}
	return true
}

// waysOut: all maps from the whole to d that come to h behind b's and to k behind c's.
func (s corner) waysOut(whole api.Obj, i, j []int) [][]int {
	var found [][]int
	for _, u := range maps(len(whole.Labels), len(s.d.Labels)) {
		byB, _ := arrow.Then(i, u)
		byC, _ := arrow.Then(j, u)
		if arrow.Same(byB, s.h) && arrow.Same(byC, s.k) {
			found = append(found, u)
		}
	}
	return found
}

func TestThereIsJustOne(t *testing.T) { // P8.1, P8.3
	random := rand.New(rand.NewSource(83))
	cones, none := 0, 0
	for range 3000 {
		s, ok := anyCorner(random)
		if !ok {
			continue
		}
		whole, i, j, err := s.push()
		if err != api.OK {
			t.Fatalf("Push of %v: %v", s, err)
		}
		u, err := s.mediate()
		ways := s.waysOut(whole, i, j)
		if !s.meets() {
			none++
			if err != api.ErrCone || len(u) > 0 || s.cocone() || len(ways) > 0 {
				t.Fatalf("both ways don't meet in %v: %v, %v, %v", s, u, err, ways)
			}
			continue
		}
		cones++
		if err != api.OK || !s.cocone() || !arrow.Is(whole, s.d, u) || len(ways) != 1 || !slices.Equal(u, ways[0]) {
			t.Fatalf("Mediate of %v: %v, %v, all ways: %v", s, u, err, ways)
		}
	}
	if cones < 200 || none < 50 {
		t.Errorf("only %d cocones, %d none", cones, none)
	}
}

func TestSwapThereAndBack(t *testing.T) { // P8.2, P8.3
	random := rand.New(rand.NewSource(82))
	done := 0
	for range 1500 {
		s, ok := anyCorner(random)
		if !ok {
			continue
		}
		q, i, j, _ := s.push()
		other, otherJ, otherI, _ := s.turned().push()
		there, back, err := s.swap()
		if err != api.OK || !arrow.Inverse(q, other, there, back) {
			t.Fatalf("Swap of %v: %v, %v, %v", s, there, back, err)
		}
		byB, _ := arrow.Then(i, there)
		byC, _ := arrow.Then(j, there)
		if !arrow.Same(byB, otherI) || !arrow.Same(byC, otherJ) {
			t.Fatalf("Swap of %v: %v, b's go to %v, c's to %v", s, there, byB, byC)
		}
		// The one way out of the whole to the other one is the way there.
		s.d, s.h, s.k = other, otherI, otherJ
		if u, err := s.mediate(); err != api.OK || !slices.Equal(u, there) {
			t.Fatalf("Mediate of %v: %v, %v, there: %v", s, u, err, there)
		}
		if round, back2, err := s.turned().swap(); err != api.OK || !slices.Equal(round, back) || !slices.Equal(back2, there) {
			t.Fatalf("Swap of %v, b and c exchanged: %v, %v, %v", s, round, back2, err)
		}
		done++
	}
	if done < 200 {
		t.Errorf("only %d were asked", done)
	}
}
