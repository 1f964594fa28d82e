package colim

import (
	"math"
	"math/rand"
	"slices"
	"strings"
	"testing"

	"cento/api"
	"cento/arrow"
	"cento/obj"
	"cento/push"
)

// wrong: numbers that are a place of no object, and of no list of nodes.
var wrong = []int{math.MinInt, math.MinInt32, -64, -1, 40, 41, 200, 1 << 32, math.MaxInt}

// objOf: a label a letter; 0, 1, 1, 2 is 0 ahead of 1, 1 ahead of 2.
func objOf(labels string, numbers ...int) api.Obj {
	o := api.Obj{}
	for _, label := range labels {
		o.Labels = append(o.Labels, string(label))
	}
	for i := 0; i < len(numbers); i += 2 {
		o.Pairs = append(o.Pairs, api.Pair{A: numbers[i], B: numbers[i+1]})
	}
	return o
}

// many: n elements with the same label, in no order.
func many(n int) api.Obj { return objOf(strings.Repeat("x", n)) }

// row: each element is ahead of all behind it.
func row(labels string) api.Obj {
	o := objOf(labels)
	for a := range o.Labels {
		for b := a + 1; b < len(o.Labels); b++ {
			o.Pairs = append(o.Pairs, api.Pair{A: a, B: b})
		}
	}
	return o
}

// circle: each element is ahead of each.
func circle(labels string) api.Obj {
	o := objOf(labels)
	for a := range o.Labels {
		for b := range o.Labels {
			o.Pairs = append(o.Pairs, api.Pair{A: a, B: b})
		}
	}
	return o
}

// from: first, first+1, .., n of them.
func from(first, n int) []int {
	var l []int
	for i := range n {
		l = append(l, first+i)
	}
	return l
}

// illFormed: what is no object, each with a label x at its beginning.
func illFormed() []api.Obj {
	long := objOf("xy")
	long.Labels[1] = strings.Repeat("y", api.MaxLine+1)
	l := []api.Obj{
		long,
		objOf("xy", 0, 1, 0, 1),
		objOf("xy", 1, 0, 0, 1),
		objOf("xyz", 0, 1, 1, 2),
		objOf("xy", 0, 1, 1, 0),
	}
	for _, n := range append(wrong, 2) {
		l = append(l, objOf("xy", 0, n), objOf("xy", n, 1))
	}
	return l
}

// to: an arrow of a diagram.
func to(from, to int, f ...int) api.Arrow { return api.Arrow{From: from, To: to, Map: f} }

// nodes: a diagram of these, and no arrows yet.
func nodes(l ...api.Obj) api.Diagram { return api.Diagram{Nodes: l} }

// with: the same nodes, and these arrows.
func with(d api.Diagram, arrows ...api.Arrow) api.Diagram {
	return api.Diagram{Nodes: d.Nodes, Arrows: arrows}
}

// times: the same thing n times.
func times[T any](n int, thing T) []T {
	var l []T
	for range n {
		l = append(l, thing)
	}
	return l
}

func sameLegs(a, b [][]int) bool { return slices.EqualFunc(a, b, slices.Equal[[]int]) }

func isNothing(o api.Obj, legs [][]int) bool {
	return len(o.Labels) == 0 && len(o.Pairs) == 0 && len(legs) == 0
}

// refused: Of and Mediate tell this error and nothing else, whatever Mediate's way out is.
func refused(t *testing.T, what string, want api.Errno, d api.Diagram) {
	t.Helper()
	if q, legs, err := Of(d); err != want || !isNothing(q, legs) {
		t.Errorf("Of, %s: %v, %v, %v", what, q, legs, err)
	}
	legs := make([][]int, len(d.Nodes))
	for k, o := range d.Nodes {
		legs[k] = make([]int, len(o.Labels))
	}
	for _, end := range []api.Obj{{}, objOf("x", 0, 0), circle("xyz"), objOf("xy", 1, 2), many(41)} {
		if u, err := Mediate(d, end, legs); err != want || len(u) > 0 {
			t.Errorf("Mediate, %s: %v, %v", what, u, err)
		}
		if u, err := Mediate(d, end, nil); err != want || len(u) > 0 {
			t.Errorf("Mediate without legs, %s: %v, %v", what, u, err)
		}
	}
}

// noDiagram: d isn't one, and nothing is made of it.
func noDiagram(t *testing.T, what string, want api.Errno, d api.Diagram) {
	t.Helper()
	if Is(d) {
		t.Errorf("Is, %s: %v", what, d)
	}
	refused(t, what, want, d)
	legs := make([][]int, len(d.Nodes))
	for k, o := range d.Nodes {
		for _, label := range o.Labels {
			legs[k] = append(legs[k], strings.Index("xyz", label[:1]))
		}
	}
	if Legs(d, circle("xyz"), legs) {
		t.Errorf("Legs, %s: %v", what, d)
	}
}

func TestIs(t *testing.T) { // P9.1
	x, xy := objOf("x"), row("xy")
	for what, d := range map[string]api.Diagram{
		"nothing":               {},
		"one of nothing":        nodes(api.Obj{}),
		"an arrow of nothing":   with(nodes(api.Obj{}), to(0, 0)),
		"out of nothing":        with(nodes(api.Obj{}, xy), to(0, 1)),
		"one":                   nodes(xy),
		"the same twice":        nodes(xy, xy),
		"to itself":             with(nodes(xy), to(0, 0, 0, 1)),
		"to itself, turned":     with(nodes(objOf("xx")), to(0, 0, 1, 0)),
		"back":                  with(nodes(xy, x), to(1, 0, 0)),
		"there and back":        with(nodes(xy, xy), to(0, 1, 0, 1), to(1, 0, 0, 1)),
		"the same arrow twice":  with(nodes(x, xy), to(0, 1, 0), to(0, 1, 0)),
		"six":                   nodes(x, x, x, x, x, x),
		"between the last ones": with(nodes(x, x, x, x, x, x), to(5, 4, 0), to(0, 5, 0)),
		"eight arrows":          with(nodes(x), times(8, to(0, 0, 0))...),
		"all as large as can be": with(nodes(times(6, many(40))...),
			times(8, to(5, 0, from(0, 40)...))...),
		"the longest label": nodes(api.Obj{Labels: []string{strings.Repeat("é", api.MaxLine/2)}}),
	} {
		if !Is(d) {
			t.Errorf("Is, %s: false", what)
		}
	}
}

func TestIsNot(t *testing.T) { // P9.1
	x, xy := objOf("x"), row("xy")
	for _, bad := range illFormed() {
		noDiagram(t, "one that is no object", api.ErrForm, nodes(bad))
		noDiagram(t, "the first is no object", api.ErrForm, nodes(bad, x))
		noDiagram(t, "the last is no object", api.ErrForm, nodes(x, x, x, x, x, bad))
		noDiagram(t, "arrows to itself", api.ErrForm, with(nodes(bad), to(0, 0, from(0, len(bad.Labels))...)))
		noDiagram(t, "arrows beside it", api.ErrForm, with(nodes(x, bad, x), to(0, 2, 0)))
	}
	for _, n := range append(wrong, 2, 3, 6) {
		noDiagram(t, "from no node", api.ErrForm, with(nodes(x, x), to(n, 1, 0)))
		noDiagram(t, "to no node", api.ErrForm, with(nodes(x, x), to(0, n, 0)))
		noDiagram(t, "from and to no node", api.ErrForm, with(nodes(x, x), to(n, n, 0)))
		noDiagram(t, "by no place", api.ErrForm, with(nodes(x, xy), to(0, 1, n)))
		noDiagram(t, "the last from no node", api.ErrForm, with(nodes(x, x), to(0, 1, 0), to(1, 0, 0), to(n, 0, 0)))
		noDiagram(t, "the first to no node", api.ErrForm, with(nodes(x, x), to(0, n, 0), to(1, 0, 0)))
	}
	for what, d := range map[string]api.Diagram{
		"an arrow and no nodes":         {Arrows: []api.Arrow{to(0, 0)}},
		"another label":                 with(nodes(x, xy), to(0, 1, 1)),
		"who is ahead isn't":            with(nodes(xy, objOf("xy")), to(0, 1, 0, 1)),
		"who is ahead is behind":        with(nodes(row("xx")), to(0, 0, 1, 0)),
		"in a circle, but not there":    with(nodes(circle("x"), x), to(0, 1, 0)),
		"no map":                        with(nodes(x, xy), to(0, 1)),
		"one less":                      with(nodes(xy), to(0, 0, 0)),
		"one more":                      with(nodes(x, xy), to(0, 1, 0, 0)),
		"of nothing by something":       with(nodes(api.Obj{}, x), to(0, 1, 0)),
		"to nothing":                    with(nodes(x, api.Obj{}), to(0, 1, 0)),
		"to nothing by no map":          with(nodes(x, api.Obj{}), to(0, 1)),
		"from and to exchanged":         with(nodes(x, xy), to(1, 0, 0)),
		"an arrow, but of other nodes":  with(nodes(x, xy, xy), to(1, 0, 0, 1)),
		"a place of the node behind it": with(nodes(x, x), to(0, 0, 1)),
		"the last of eight":             with(nodes(x), append(times(7, to(0, 0, 0)), to(0, 0, 1))...),
		"the first of eight":            with(nodes(x), append([]api.Arrow{to(0, 0, 1)}, times(7, to(0, 0, 0))...)...),
	} {
		noDiagram(t, what, api.ErrForm, d)
	}
}

func TestTooLarge(t *testing.T) { // P9.1, P9.2
	x, bad := objOf("x"), objOf("xy", 1, 2)
	for what, d := range map[string]api.Diagram{
		"seven of nothing":           {Nodes: make([]api.Obj, 7)},
		"seven":                      nodes(times(7, x)...),
		"seven, one no object":       nodes(append(times(6, x), bad)...),
		"seven, the first no object": nodes(append([]api.Obj{bad}, times(6, x)...)...),
		"many thousands":             {Nodes: make([]api.Obj, 1<<16)},
		"nine arrows":                with(nodes(x), times(9, to(0, 0, 0))...),
		"nine arrows that are none":  {Arrows: make([]api.Arrow, 9)},
		"nine arrows, a bad node":    {Nodes: []api.Obj{bad}, Arrows: make([]api.Arrow, 9)},
		"many thousand arrows":       {Arrows: make([]api.Arrow, 1<<16)},
		"41":                         nodes(many(41)),
		"41, in pairs that are none": nodes(objOf(strings.Repeat("x", 41), 0, 99)),
	} {
		noDiagram(t, what, api.ErrLarge, d)
	}
	// Each is an object, all are a diagram: only together they are too many.
	for what, d := range map[string]api.Diagram{
		"20 and 21":                   nodes(many(20), many(21)),
		"40 and one more":             nodes(many(40), x),
		"one and 40":                  nodes(x, many(40)),
		"six, the last one more":      nodes(many(8), many(8), many(8), many(8), many(8), x),
		"six of 40":                   nodes(times(6, many(40))...),
		"all made one by arrows":      with(nodes(many(40), x), to(0, 1, make([]int, 40)...)),
		"21 to 20, made 20 by arrows": with(nodes(many(20), many(21)), to(0, 1, from(0, 20)...), to(1, 0, append(from(0, 20), 0)...)),
	} {
		if !Is(d) {
			t.Errorf("Is, %s: false", what)
		}
		refused(t, what, api.ErrLarge, d)
		legs := make([][]int, len(d.Nodes))
		for k, o := range d.Nodes {
			legs[k] = make([]int, len(o.Labels))
		}
		if !Legs(d, x, legs) {
			t.Errorf("Legs, %s: false", what)
		}
	}
	refused(t, "together too many, one no object", api.ErrLarge, nodes(many(40), bad))
	refused(t, "together too many, an arrow that is none", api.ErrLarge, with(nodes(many(40), x), to(0, 9)))
}

func TestOf(t *testing.T) { // P9.1
	x, xy := objOf("x"), row("xy")
	for _, c := range []struct {
		what string
		d    api.Diagram
		q    api.Obj
		legs [][]int
	}{
		{"nothing", api.Diagram{}, api.Obj{}, nil},
		{"one of nothing", nodes(api.Obj{}), api.Obj{}, [][]int{nil}},
		{"six of nothing", nodes(make([]api.Obj, 6)...), api.Obj{}, make([][]int, 6)},
		{"one", nodes(objOf("xyx", 2, 0)), objOf("xyx", 2, 0), [][]int{{0, 1, 2}}},
		{"two", nodes(row("ab"), row("ab")), objOf("abab", 0, 1, 2, 3), [][]int{{0, 1}, {2, 3}}},
		{"three, one of nothing", nodes(objOf("ba", 1, 0), api.Obj{}, circle("c")), objOf("bac", 1, 0, 2, 2), [][]int{{0, 1}, nil, {2}}},
		{"out of nothing", with(nodes(xy, api.Obj{}), to(1, 0)), xy, [][]int{{0, 1}, nil}},
		{"to itself, nothing moved", with(nodes(xy), to(0, 0, 0, 1)), xy, [][]int{{0, 1}}},
		{"to itself, turned", with(nodes(objOf("xyx")), to(0, 0, 2, 1, 0)), objOf("xy"), [][]int{{0, 1, 0}}},
		{"to itself, all to one", with(nodes(objOf("xxx")), to(0, 0, 2, 2, 2)), x, [][]int{{0, 0, 0}}},
		{"to itself, in a row", with(nodes(objOf("xxxx")), to(0, 0, 1, 2, 3, 3)), x, [][]int{{0, 0, 0, 0}}},
		{"a circle to itself", with(nodes(circle("xx")), to(0, 0, 1, 0)), circle("x"), [][]int{{0, 0}}},
		{"a part, first", with(nodes(objOf("y"), row("xyz")), to(0, 1, 1)), objOf("yxz", 0, 2, 1, 0, 1, 2), [][]int{{0}, {1, 0, 2}}},
		{"a part, last", with(nodes(row("xyz"), objOf("y")), to(1, 0, 1)), row("xyz"), [][]int{{0, 1, 2}, {1}}},
		{"pairs that only one has", with(nodes(objOf("xy"), xy), to(0, 1, 0, 1)), xy, [][]int{{0, 1}, {0, 1}}},
		{"in a row of arrows", with(nodes(x, objOf("xy"), row("zxy")), to(0, 1, 0), to(1, 2, 1, 2)), objOf("xyz", 0, 1, 2, 0, 2, 1), [][]int{{0}, {0, 1}, {2, 0, 1}}},
		{"in a row, the last arrow first", with(nodes(x, objOf("xy"), row("zxy")), to(1, 2, 1, 2), to(0, 1, 0)), objOf("xyz", 0, 1, 2, 0, 2, 1), [][]int{{0}, {0, 1}, {2, 0, 1}}},
		{"there and back, turned", with(nodes(objOf("xx"), objOf("xx")), to(0, 1, 0, 1), to(1, 0, 1, 0)), x, [][]int{{0, 0}, {0, 0}}},
		{"two arrows make one", with(nodes(x, row("xx")), to(0, 1, 0), to(0, 1, 1)), circle("x"), [][]int{{0}, {0, 0}}},
		{"the same arrow twice", with(nodes(x, row("xx")), to(0, 1, 1), to(0, 1, 1)), objOf("xx", 1, 0), [][]int{{0}, {1, 0}}},
		{"over what all three have", with(nodes(x, row("xa"), row("bx"), row("xc")), to(0, 1, 0), to(0, 2, 1), to(0, 3, 0)),
			objOf("xabc", 0, 1, 0, 3, 2, 0, 2, 1, 2, 3), [][]int{{0}, {0, 1}, {2, 0}, {0, 3}}},
		{"the contrary", with(nodes(xy, row("yx"), objOf("xy")), to(2, 0, 0, 1), to(2, 1, 1, 0)), circle("xy"), [][]int{{0, 1}, {1, 0}, {0, 1}}},
		{"a circle of three", with(nodes(row("xy"), row("yz"), row("zx"), x, objOf("y"), objOf("z")),
			to(3, 0, 0), to(3, 2, 1), to(4, 0, 1), to(4, 1, 0), to(5, 1, 1), to(5, 2, 0)),
			circle("xyz"), [][]int{{0, 1}, {1, 2}, {2, 0}, {0}, {1}, {2}}},
		{"one behind the other, by two", with(nodes(row("xy"), row("yz"), objOf("y")), to(2, 0, 1), to(2, 1, 0)), row("xyz"), [][]int{{0, 1}, {1, 2}, {1}}},
		{"two lead to one", with(nodes(row("xa"), objOf("xb", 1, 0), x), to(2, 0, 0), to(2, 1, 0)), objOf("xab", 0, 1, 2, 0, 2, 1), [][]int{{0, 1}, {0, 2}, {0}}},
		{"two fall together in the middle", with(nodes(objOf("xx"), x, objOf("xx")), to(0, 1, 0, 0), to(0, 2, 0, 1)), x, [][]int{{0, 0}, {0}, {0, 0}}},
	} {
		q, legs, err := Of(c.d)
		if err != api.OK || !obj.Same(q, c.q) || !sameLegs(legs, c.legs) {
			t.Errorf("Of, %s: %v, %v, %v", c.what, q, legs, err)
		}
		if !Is(c.d) || !Legs(c.d, q, legs) {
			t.Errorf("%s: no diagram, or legs that are none", c.what)
		}
	}
}

func TestOfAtItsLimits(t *testing.T) { // P9.1
	for n := range 41 {
		q, legs, err := Of(nodes(row(strings.Repeat("a", n)), circle(strings.Repeat("b", 40-n))))
		pairs := n*(n-1)/2 + (40-n)*(40-n)
		if err != api.OK || !obj.Is(q) || len(q.Labels) != 40 || len(q.Pairs) != pairs || !sameLegs(legs, [][]int{from(0, n), from(n, 40-n)}) {
			t.Errorf("Of of %d and %d: %v, %v, %v", n, 40-n, q, legs, err)
		}
	}
	if q, legs, err := Of(nodes(row(strings.Repeat("x", 40)))); err != api.OK || len(q.Pairs) != 780 || !sameLegs(legs, [][]int{from(0, 40)}) {
		t.Errorf("Of of 40: %v, %v, %v", q, legs, err)
	}
	d := nodes(times(5, many(8))...)
	if q, legs, err := Of(d); err != api.OK || !obj.Same(q, many(40)) || !slices.Equal(slices.Concat(legs...), from(0, 40)) {
		t.Errorf("Of of five times eight: %v, %v, %v", q, legs, err)
	}
	all := from(0, 8)
	d = with(d, to(0, 1, all...), to(1, 2, all...), to(2, 3, all...), to(3, 4, all...), to(4, 0, 1, 2, 3, 4, 5, 6, 7, 0), to(0, 0, all...), to(2, 0, all...), to(0, 4, all...))
	if q, legs, err := Of(d); err != api.OK || !obj.Same(q, many(1)) || !sameLegs(legs, times(5, make([]int, 8))) {
		t.Errorf("Of with eight arrows, all made one: %v, %v, %v", q, legs, err)
	}
	six := nodes(many(7), many(7), many(7), many(7), many(7), many(5))
	if q, legs, err := Of(six); err != api.OK || !obj.Same(q, many(40)) || len(legs) != 6 || !slices.Equal(slices.Concat(legs...), from(0, 40)) {
		t.Errorf("Of of six: %v, %v, %v", q, legs, err)
	}
	label := strings.Repeat("é", api.MaxLine/2)
	o := api.Obj{Labels: []string{label, ""}}
	if q, _, err := Of(nodes(o, o)); err != api.OK || !slices.Equal(q.Labels, []string{label, "", label, ""}) {
		t.Errorf("Of the longest labels and of empty ones: %v, %v", q, err)
	}
}

func TestMediate(t *testing.T) { // P9.2
	x, xx := objOf("x"), objOf("xx")
	for _, c := range []struct {
		what string
		d    api.Diagram
		end  api.Obj
		legs [][]int
		u    []int
	}{
		{"of nothing", api.Diagram{}, api.Obj{}, nil, nil},
		{"of nothing to more", api.Diagram{}, row("xy"), nil, nil},
		{"one of nothing", nodes(api.Obj{}), row("xy"), [][]int{nil}, nil},
		{"one of nothing, by an empty leg", nodes(api.Obj{}), row("xy"), [][]int{{}}, nil},
		{"one", nodes(row("xy")), row("axby"), [][]int{{1, 3}}, []int{1, 3}},
		{"two to one", nodes(x, x), x, [][]int{{0}, {0}}, []int{0, 0}},
		{"two to two", nodes(x, x), xx, [][]int{{1}, {0}}, []int{1, 0}},
		{"two, the middle of nothing", nodes(x, api.Obj{}, objOf("y")), objOf("yx"), [][]int{{1}, nil, {0}}, []int{1, 0}},
		{"made one", with(nodes(x, x), to(0, 1, 0)), xx, [][]int{{1}, {1}}, []int{1}},
		{"a part first", with(nodes(objOf("y"), row("xyz")), to(0, 1, 1)), row("xyz"), [][]int{{1}, {0, 1, 2}}, []int{1, 0, 2}},
		{"to itself, turned", with(nodes(xx), to(0, 0, 1, 0)), objOf("yx"), [][]int{{1, 1}}, []int{1}},
		{"two arrows make one", with(nodes(x, row("xx")), to(0, 1, 0), to(0, 1, 1)), circle("xx"), [][]int{{1}, {1, 1}}, []int{1}},
		{"over what three have", with(nodes(x, row("xa"), row("bx"), row("xc")), to(0, 1, 0), to(0, 2, 1), to(0, 3, 0)),
			row("bxca"), [][]int{{1}, {1, 3}, {0, 1}, {1, 2}}, []int{1, 3, 0, 2}},
		{"the contrary to a circle", with(nodes(row("xy"), row("yx"), objOf("xy")), to(2, 0, 0, 1), to(2, 1, 1, 0)),
			circle("axy"), [][]int{{1, 2}, {2, 1}, {1, 2}}, []int{1, 2}},
	} {
		u, err := Mediate(c.d, c.end, c.legs)
		if err != api.OK || !slices.Equal(u, c.u) || !Legs(c.d, c.end, c.legs) {
			t.Errorf("Mediate, %s: %v, %v", c.what, u, err)
		}
	}
	// As large an end as can be, and one more, which is told ahead of all that is wrong with the legs.
	d := nodes(many(39), x)
	if u, err := Mediate(d, many(40), [][]int{from(1, 39), {0}}); err != api.OK || !slices.Equal(u, append(from(1, 39), 0)) {
		t.Errorf("Mediate to 40: %v, %v", u, err)
	}
	for _, end := range []api.Obj{many(41), objOf(strings.Repeat("x", 41), 0, 99), many(1000)} {
		for _, legs := range [][][]int{{from(1, 39), {0}}, {from(1, 39), {-1}}, {from(1, 39)}, nil} {
			if u, err := Mediate(d, end, legs); err != api.ErrLarge || len(u) > 0 || Legs(d, end, legs) {
				t.Errorf("Mediate to %d: %v, %v", len(end.Labels), u, err)
			}
		}
		if u, err := Mediate(api.Diagram{}, end, nil); err != api.ErrLarge || len(u) > 0 || Legs(api.Diagram{}, end, nil) {
			t.Errorf("Mediate of nothing to %d: %v, %v", len(end.Labels), u, err)
		}
	}
}

func TestNoLegs(t *testing.T) { // P9.2
	x, xx := objOf("x"), objOf("xx")
	refused := func(what string, d api.Diagram, end api.Obj, legs ...[]int) {
		t.Helper()
		if u, err := Mediate(d, end, legs); err != api.ErrCone || len(u) > 0 || Legs(d, end, legs) {
			t.Errorf("Mediate, %s: %v, %v", what, u, err)
		}
	}
	one := with(nodes(x, x), to(0, 1, 0))
	three := with(nodes(x, x, x), to(0, 1, 0), to(1, 2, 0))
	refused("an arrow's ends apart", one, xx, []int{0}, []int{1})
	refused("the last arrow's ends apart", three, xx, []int{0}, []int{0}, []int{1})
	refused("the first arrow's ends apart", three, xx, []int{1}, []int{0}, []int{0})
	refused("one of two ends apart", with(nodes(xx, xx), to(0, 1, 0, 1)), xx, []int{0, 1}, []int{0, 0})
	refused("crossed", with(nodes(xx, xx), to(0, 1, 1, 0)), xx, []int{0, 1}, []int{0, 1})
	refused("to itself, turned, but kept apart", with(nodes(xx), to(0, 0, 1, 0)), xx, []int{0, 1})
	refused("nothing there", one, api.Obj{}, nil, nil)
	refused("another label", one, objOf("y"), []int{0}, []int{0})
	refused("who is ahead isn't", nodes(x, row("xy")), objOf("xy"), []int{0}, []int{0, 1})
	refused("who is ahead is behind", nodes(row("xx")), row("xx"), []int{1, 0})
	refused("no legs", one, x)
	refused("one leg less", one, x, []int{0})
	refused("one leg more", one, x, []int{0}, []int{0}, []int{0})
	refused("one empty leg more", one, x, []int{0}, []int{0}, nil)
	refused("a leg of no node", api.Diagram{}, x, nil)
	refused("no leg of nothing", nodes(api.Obj{}), x)
	refused("the first leg is nil", one, x, nil, []int{0})
	refused("the last leg is nil", one, x, []int{0}, nil)
	refused("a leg has one more", one, x, []int{0}, []int{0, 0})
	refused("a leg has one less", nodes(xx), x, []int{0})
	refused("a leg of nothing has one", nodes(x, api.Obj{}), x, []int{0}, []int{0})
	for _, n := range append(wrong, 1, 2) {
		refused("no place", one, x, []int{n}, []int{n})
		refused("the first, no place", nodes(x, x), x, []int{n}, []int{0})
		refused("the last, no place", nodes(x, x), x, []int{0}, []int{n})
	}
	for _, bad := range illFormed() {
		refused("to what is no object", one, bad, []int{0}, []int{0})
		refused("one of nothing to what is no object", nodes(api.Obj{}), bad, nil)
		refused("nothing to what is no object", api.Diagram{}, bad)
	}
}

// guarded: the same diagram, with spare room behind each list that a call must leave alone.
func guarded(d api.Diagram) (api.Diagram, func() bool) {
	var checks []func() bool
	room := func(l []int) []int {
		all := append(slices.Clone(l), 77, 78, 79)
		kept := slices.Clone(all)
		checks = append(checks, func() bool { return slices.Equal(all, kept) })
		return all[:len(l)]
	}
	all := api.Diagram{}
	for _, o := range append(slices.Clone(d.Nodes), objOf("spare")) {
		labels := append(slices.Clone(o.Labels), "spare", "room")
		pairs := append(slices.Clone(o.Pairs), api.Pair{A: 7, B: 8}, api.Pair{A: 9, B: 10})
		labels0, pairs0 := slices.Clone(labels), slices.Clone(pairs)
		checks = append(checks, func() bool { return slices.Equal(labels, labels0) && slices.Equal(pairs, pairs0) })
		all.Nodes = append(all.Nodes, api.Obj{Labels: labels[:len(o.Labels)], Pairs: pairs[:len(o.Pairs)]})
	}
	for _, a := range append(slices.Clone(d.Arrows), to(7, 8, 9)) {
		all.Arrows = append(all.Arrows, to(a.From, a.To, room(a.Map)...))
	}
	nodes0, arrows0 := slices.Clone(all.Nodes), slices.Clone(all.Arrows)
	checks = append(checks, func() bool {
		return slices.EqualFunc(all.Nodes, nodes0, obj.Same) && slices.EqualFunc(all.Arrows, arrows0, func(a, b api.Arrow) bool {
			return a.From == b.From && a.To == b.To && slices.Equal(a.Map, b.Map)
		})
	})
	same := func() bool {
		for _, check := range checks {
			if !check() {
				return false
			}
		}
		return true
	}
	return api.Diagram{Nodes: all.Nodes[:len(d.Nodes)], Arrows: all.Arrows[:len(d.Arrows)]}, same
}

// spoil writes over all of a list, its spare room too.
func spoil[T any](l []T, value T) {
	for i := range l[:cap(l)] {
		l[:cap(l)][i] = value
	}
}

func TestNothingIsSharedOrChanged(t *testing.T) { // P9.1, P9.2
	for what, plain := range map[string]api.Diagram{
		"put together": with(nodes(row("xby"), row("cxy"), objOf("xy")), to(2, 0, 0, 2), to(2, 1, 1, 2)),
		"one alone":    nodes(row("xby")),
		"no arrows":    nodes(row("xby"), api.Obj{}, objOf("yx")),
		"to itself":    with(nodes(objOf("xxy")), to(0, 0, 1, 0, 2)),
	} {
		d, same := guarded(plain)
		q, legs, err := Of(d)
		want, wantLegs, wantErr := Of(plain)
		if err != api.OK || wantErr != api.OK || !obj.Same(q, want) || !sameLegs(legs, wantLegs) {
			t.Errorf("Of, %s: %v, %v, %v", what, q, legs, err)
		}
		u, err := Mediate(d, q, legs)
		if err != api.OK || !slices.Equal(u, from(0, len(q.Labels))) || !sameLegs(legs, wantLegs) || !Is(d) || !Legs(d, q, legs) {
			t.Errorf("Mediate, %s: %v, %v", what, u, err)
		}
		spoil(u, -9)
		for k := range legs {
			if !slices.Equal(legs[k], wantLegs[k]) {
				t.Errorf("%s: leg %d shares memory with an earlier one, or with what Mediate answers: %v", what, k, legs[k])
			}
			spoil(legs[k], -7)
		}
		if !obj.Same(q, want) {
			t.Errorf("%s: the object shares memory with the legs: %v", what, q)
		}
		spoil(legs, nil)
		spoil(q.Labels, "spoilt")
		spoil(q.Pairs, api.Pair{A: -7, B: -7})
		if !same() {
			t.Errorf("%s: what is handed in is changed, or shared", what)
		}
		if q, legs, err := Of(d); err != api.OK || !obj.Same(q, want) || !sameLegs(legs, wantLegs) {
			t.Errorf("Of, %s, asked again: %v, %v, %v", what, q, legs, err)
		}
	}
}

// randomObj: n elements, labels of two kinds, pairs as they come and those that follow of them.
func randomObj(random *rand.Rand, n int) api.Obj {
	o := api.Obj{}
	ahead := make([][]bool, n)
	for i := range ahead {
		o.Labels = append(o.Labels, string(rune('x'+random.Intn(2))))
		ahead[i] = make([]bool, n)
	}
	for range random.Intn(n + 2) {
		if a, b := random.Intn(n+1), random.Intn(n+1); a < n && b < n && (a < b || random.Intn(8) == 0) {
			ahead[a][b] = true
		}
	}
	o.Pairs = closed(ahead)
	return o
}

// closed: the pairs of what is ahead by ways of one step or more.
func closed(ahead [][]bool) []api.Pair {
	for k := range ahead {
		for a := range ahead {
			for b := range ahead {
				ahead[a][b] = ahead[a][b] || ahead[a][k] && ahead[k][b]
			}
		}
	}
	var l []api.Pair
	for a := range ahead {
		for b := range ahead {
			if ahead[a][b] {
				l = append(l, api.Pair{A: a, B: b})
			}
		}
	}
	return l
}

// maps: all lists of n places of an object of m elements.
func maps(n, m int) [][]int {
	l := [][]int{nil}
	for range n {
		var longer [][]int
		for _, f := range l {
			for place := range m {
				longer = append(longer, append(slices.Clone(f), place))
			}
		}
		l = longer
	}
	return l
}

// anyArrow: one of all from a to b; false, if there is none.
func anyArrow(random *rand.Rand, a, b api.Obj) ([]int, bool) {
	var arrows [][]int
	for _, f := range maps(len(a.Labels), len(b.Labels)) {
		if arrow.Is(a, b, f) {
			arrows = append(arrows, f)
		}
	}
	if len(arrows) == 0 {
		return nil, false
	}
	return arrows[random.Intn(len(arrows))], true
}

// anyDiagram: up to count nodes, each of up to size elements, and what arrows are found.
func anyDiagram(random *rand.Rand, count, size int) api.Diagram {
	d := api.Diagram{}
	for range random.Intn(count + 1) {
		d.Nodes = append(d.Nodes, randomObj(random, random.Intn(size+1)))
	}
	if n := len(d.Nodes); n > 0 {
		for range random.Intn(api.MaxArrows + 1) {
			from, end := random.Intn(n), random.Intn(n)
			if f, ok := anyArrow(random, d.Nodes[from], d.Nodes[end]); ok {
				d.Arrows = append(d.Arrows, to(from, end, f...))
			}
		}
	}
	return d
}

// plainly: what Of answers, by the plainest means: of each element the least one that arrows make one with it.
func plainly(d api.Diagram) (api.Obj, [][]int) {
	var least [][]int
	var labels []string
	for _, o := range d.Nodes {
		least = append(least, from(len(labels), len(o.Labels)))
		labels = append(labels, o.Labels...)
	}
	for range labels {
		for _, a := range d.Arrows {
			for x, place := range a.Map {
				l := min(least[a.From][x], least[a.To][place])
				least[a.From][x], least[a.To][place] = l, l
			}
		}
	}
	roots := slices.Concat(least...)
	slices.Sort(roots)
	roots = slices.Compact(roots)
	q := api.Obj{}
	ahead := make([][]bool, len(roots))
	for i, e := range roots {
		q.Labels = append(q.Labels, labels[e])
		ahead[i] = make([]bool, len(roots))
	}
	for k, o := range d.Nodes {
		for x, e := range least[k] {
			least[k][x] = slices.Index(roots, e)
		}
		for _, p := range o.Pairs {
			ahead[least[k][p.A]][least[k][p.B]] = true
		}
	}
	q.Pairs = closed(ahead)
	return q, least
}

func TestOfAgainstTheWords(t *testing.T) { // P9.1
	random := rand.New(rand.NewSource(91))
	for range 2000 {
		d := anyDiagram(random, api.MaxNodes, 4)
		q, legs, err := Of(d)
		want, wantLegs := plainly(d)
		if err != api.OK || !Is(d) || !obj.Same(q, want) || !sameLegs(legs, wantLegs) || !Legs(d, q, legs) {
			t.Fatalf("Of of %v: %v, %v, %v, want %v, %v", d, q, legs, err, want, wantLegs)
		}
	}
}

// anyLegs: arrows from all nodes to end, those of d meeting in them or not.
func anyLegs(random *rand.Rand, d api.Diagram, end api.Obj) ([][]int, bool) {
	var legs [][]int
	for _, o := range d.Nodes {
		leg, ok := anyArrow(random, o, end)
		if !ok {
			return nil, false
		}
		legs = append(legs, leg)
	}
	return legs, true
}

// meet: whether what an arrow leads to one another ends at one place, element by element.
func meet(d api.Diagram, legs [][]int) bool {
	for _, a := range d.Arrows {
		for x, place := range a.Map {
			if legs[a.From][x] != legs[a.To][place] {
				return false
			}
		}
	}
	return true
}

// waysOut: all maps from the whole that come to legs behind own.
func waysOut(whole, end api.Obj, own, legs [][]int) [][]int {
	var found [][]int
maps:
	for _, u := range maps(len(whole.Labels), len(end.Labels)) {
		for k := range own {
			if way, ok := arrow.Then(own[k], u); !ok || !arrow.Same(way, legs[k]) {
				continue maps
			}
		}
		found = append(found, u)
	}
	return found
}

func TestThereIsJustOneWayOut(t *testing.T) { // P9.2
	random := rand.New(rand.NewSource(92))
	cones, none := 0, 0
	for range 6000 {
		d := anyDiagram(random, 3, 3)
		whole, own, _ := Of(d)
		end := randomObj(random, random.Intn(5))
		if random.Intn(3) == 0 {
			end = obj.Copy(whole)
		}
		legs, ok := anyLegs(random, d, end)
		if !ok || len(whole.Labels) > 6 {
			continue
		}
		u, err := Mediate(d, end, legs)
		ways := waysOut(whole, end, own, legs)
		if !meet(d, legs) {
			none++
			if err != api.ErrCone || len(u) > 0 || Legs(d, end, legs) || len(ways) > 0 {
				t.Fatalf("arrows don't meet in %v of %v: %v, %v, %v", legs, d, u, err, ways)
			}
			continue
		}
		cones++
		if err != api.OK || !Legs(d, end, legs) || !arrow.Is(whole, end, u) || len(ways) != 1 || !slices.Equal(u, ways[0]) {
			t.Fatalf("Mediate of %v by %v: %v, %v, all ways: %v", d, legs, u, err, ways)
		}
	}
	if cones < 200 || none < 50 {
		t.Errorf("only %d with a way out, %d without", cones, none)
	}
}

func TestOneArrowBehindTheOthers(t *testing.T) { // P9.3
	random := rand.New(rand.NewSource(93))
	done := 0
	for range 1500 {
		d := anyDiagram(random, 5, 4)
		if len(d.Arrows) == 0 {
			continue
		}
		first, last := d.Arrows[:len(d.Arrows)-1], d.Arrows[len(d.Arrows)-1]
		part, into, err := Of(with(d, first...))
		if err != api.OK {
			t.Fatalf("Of of %v: %v", d, err)
		}
		over, _ := arrow.Then(last.Map, into[last.To])
		want, where, err := push.Equal(d.Nodes[last.From], part, into[last.From], over)
		q, legs, err2 := Of(d)
		if err != api.OK || err2 != api.OK || !obj.Same(q, want) {
			t.Fatalf("Of of %v: %v, one behind the other %v", d, q, want)
		}
		for k := range legs {
			if way, ok := arrow.Then(into[k], where); !ok || !arrow.Same(way, legs[k]) {
				t.Fatalf("Of of %v: leg %d is %v, one behind the other %v", d, k, legs[k], way)
			}
		}
		done++
	}
	if done < 500 {
		t.Errorf("only %d were asked", done)
	}
}

func TestPushesOneBehindTheOther(t *testing.T) { // P9.3
	random := rand.New(rand.NewSource(94))
	done := 0
	for range 3000 {
		b, c, e := randomObj(random, random.Intn(5)), randomObj(random, random.Intn(5)), randomObj(random, random.Intn(5))
		a, a2 := randomObj(random, random.Intn(3)), randomObj(random, random.Intn(3))
		if random.Intn(2) == 0 {
			a2 = a
		}
		f, ok := anyArrow(random, a, b)
		g, ok2 := anyArrow(random, a, c)
		h, ok3 := anyArrow(random, a2, c)
		k, ok4 := anyArrow(random, a2, e)
		if !ok || !ok2 || !ok3 || !ok4 {
			continue
		}
		d := with(nodes(b, c, e, a, a2), to(3, 0, f...), to(3, 1, g...), to(4, 1, h...), to(4, 2, k...))
		q, legs, err := Of(d)
		two, i, j, _ := push.Push(a, b, c, f, g)
		over, _ := arrow.Then(h, j)
		want, there, third, err2 := push.Push(a2, two, e, over, k)
		byB, _ := arrow.Then(i, there)
		byC, _ := arrow.Then(j, there)
		if err != api.OK || err2 != api.OK || !obj.Same(q, want) || !sameLegs(legs[:3], [][]int{byB, byC, third}) {
			t.Fatalf("Of of %v: %v, %v, one behind the other %v", d, q, legs, want)
		}
		one, i, j, _ := push.Push(a, b, c, f, g)
		if q, legs, err := Of(with(nodes(b, c, a), to(2, 0, f...), to(2, 1, g...))); err != api.OK || !obj.Same(q, one) || !sameLegs(legs[:2], [][]int{i, j}) {
			t.Fatalf("Of of two over what both have: %v, %v, %v, want %v", q, legs, err, one)
		}
		done++
	}
	if done < 200 {
		t.Errorf("only %d were asked", done)
	}
}

func TestWhateverTheOrder(t *testing.T) { // P9.1, P9.3
	random := rand.New(rand.NewSource(95))
	for range 1000 {
		d := anyDiagram(random, 5, 4)
		q, legs, _ := Of(d)
		// Arrows: whichever comes first, nothing differs.
		turned := with(d, slices.Clone(d.Arrows)...)
		slices.Reverse(turned.Arrows)
		if q2, legs2, err := Of(turned); err != api.OK || !obj.Same(q, q2) || !sameLegs(legs, legs2) {
			t.Fatalf("Of of %v: %v, arrows turned %v", d, q, q2)
		}
		// Nodes: there is one way there and back, on which nothing moves.
		n := len(d.Nodes)
		other := api.Diagram{Nodes: slices.Clone(d.Nodes)}
		slices.Reverse(other.Nodes)
		for _, a := range d.Arrows {
			other.Arrows = append(other.Arrows, to(n-1-a.From, n-1-a.To, a.Map...))
		}
		q2, legs2, _ := Of(other)
		byOther, byOwn := slices.Clone(legs2), slices.Clone(legs)
		slices.Reverse(byOther)
		slices.Reverse(byOwn)
		there, err := Mediate(d, q2, byOther)
		back, err2 := Mediate(other, q, byOwn)
		if err != api.OK || err2 != api.OK || !arrow.Inverse(q, q2, there, back) {
			t.Fatalf("Of of %v: %v, nodes turned %v: %v, %v", d, q, q2, there, back)
		}
	}
}
