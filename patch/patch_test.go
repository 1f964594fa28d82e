package patch

import (
	"math"
	"math/rand"
	"slices"
	"strconv"
	"strings"
	"testing"

	"cento/api"
)

// me: the number of the patches that are told here; older and old: of those that they need.
const (
	older = 1<<16 | 1
	old   = 1<<16 | 2
	me    = 1<<16 | 9
)

// wrong: numbers that are no line's.
var wrong = []int{math.MinInt, math.MinInt32, -64, -1, 40, 41, 200, 1 << 16, 1 << 32, math.MaxInt}

func line(patch uint32, n int) api.LineID { return api.LineID{Patch: patch, N: n} }

func edge(a, b api.LineID) api.Edge { return api.Edge{A: a, B: b} }

// adds: n lines.
func adds(n int) []string { return slices.Repeat([]string{"x\n"}, n) }

// rows: from a to b, as texts of the same length: rising.
func rows(a, b int) []string {
	var l []string
	for i := a; i < b; i++ {
		l = append(l, strconv.Itoa(100+i))
	}
	return l
}

// some: n numbers from 1 on.
func some(n int) []uint32 {
	var l []uint32
	for i := range n {
		l = append(l, uint32(i+1))
	}
	return l
}

// kills: n lines of old.
func kills(n int) []api.LineID {
	var l []api.LineID
	for i := range n {
		l = append(l, line(old, i))
	}
	return l
}

// edges: n of them, each from a line of older to one of old.
func edges(n int) []api.Edge {
	var l []api.Edge
	for i := range n {
		l = append(l, edge(line(older, i/40), line(old, i%40)))
	}
	return l
}

// right: a patch with something of everything.
func right() api.Patch {
	return api.Patch{
		ID:    me,
		Deps:  []uint32{older, old},
		Makes: []string{"b", "d"},
		Drops: []string{"a", "c"},
		Hunks: []api.Hunk{
			{Path: "b", Adds: []string{"1\n", "2"}, Edges: []api.Edge{edge(line(old, 39), line(me, 0)), edge(line(me, 0), line(me, 1))}, Kills: []api.LineID{line(older, 3), line(older, 5), line(old, 0)}},
			{Path: "d/e.f", Edges: []api.Edge{edge(line(older, 1), line(older, 0))}},
			{Path: "g", Adds: []string{"\n", "4\n", "5\n"}, Edges: []api.Edge{edge(line(me, 2), line(me, 4)), edge(line(me, 4), line(old, 7))}},
		},
	}
}

// alone: a patch of these hunks.
func alone(hunks ...api.Hunk) api.Patch {
	return api.Patch{ID: me, Deps: []uint32{older, old}, Hunks: hunks}
}

// full: as much of everything as may be.
func full() api.Patch {
	p := api.Patch{ID: math.MaxUint32, Deps: append(some(58), older, old), Makes: rows(0, 6), Drops: rows(6, 12)}
	for _, path := range rows(20, 26) {
		p.Hunks = append(p.Hunks, api.Hunk{Path: path + strings.Repeat("z", 17), Adds: slices.Repeat([]string{strings.Repeat("x", 59) + "\n"}, 40), Edges: edges(80), Kills: kills(40)})
	}
	return p
}

func TestIsPath(t *testing.T) { // P12.1
	for _, c := range []struct {
		what, s string
		want    bool
	}{
		{"nothing", "", false},
		{"a letter", "a", true},
		{"all letters", "abcdefghijklmnopqrst", true},
		{"the other ones", "uvwxyz", true},
		{"digits", "0123456789", true},
		{"dots", "...", true},
		{"a stroke", "/", true},
		{"strokes", "//a//b//", true},
		{"of all kinds", "a/b.9", true},
		{"20 bytes", strings.Repeat("z", 20), true},
		{"21 bytes", strings.Repeat("z", 21), false},
		{"many", strings.Repeat("z", 1<<20), false},
		{"a great letter", "aBc", false},
		{"a blank", "a b", false},
		{"a line's end", "a\n", false},
		{"a byte 0", "a\x00", false},
		{"the other stroke", "a\\b", false},
		{"a rune of two bytes", "\u00e4", false},
		{"a rune whose lowest byte is a letter", "\u0161\u0461", false},
		{"a broad letter", "\uff41", false},
		{"a digit elsewhere", "\u0663", false},
		{"bytes that are no runes", "\xff", false},
		{"a letter with its top bit on", "\xe1", false},
	} {
		if got := IsPath(c.s); got != c.want {
			t.Errorf("P12.1: %s: IsPath is %v", c.what, got)
		}
	}
}

// TestIsPathByBytes has each byte at each place of paths of each length.
func TestIsPathByBytes(t *testing.T) { // P12.1
	for b := range 256 {
		byHand := strings.Contains("abcdefghijklmnopqrstuvwxyz0123456789./", string([]byte{byte(b)}))
		for n := 1; n <= 22; n++ {
			for place := range n {
				s := []byte(strings.Repeat("m", n))
				s[place] = byte(b)
				if want := byHand && n <= 20; IsPath(string(s)) != want {
					t.Fatalf("P12.1: IsPath(%q) is %v", s, !want)
				}
			}
		}
	}
}

func TestID(t *testing.T) { // P12.1
	for _, c := range []struct {
		who, seq int
		want     uint32
	}{
		{0, 0, 0},
		{0, 1, 1},
		{1, 0, 65536},
		{1, 1, 65537},
		{1, 9, me},
		{0x1234, 0x5678, 0x12345678},
		{65535, 65535, math.MaxUint32},
		{65536, 65536, 0},
		{65537, 65538, 65538},
		{0, 65536, 0},
		{3, 65536 + 7, 3<<16 + 7},
		{1<<32 + 5, 1<<32 + 6, 5<<16 + 6},
		{-1, 0, 0xffff0000},
		{0, -1, 0x0000ffff},
		{-2, -3, 0xfffefffd},
		{-65536, -65536, 0},
		{math.MaxInt, math.MaxInt, math.MaxUint32},
		{math.MinInt, math.MinInt, 0},
	} {
		if got := ID(c.who, c.seq); got != c.want {
			t.Errorf("P12.1: ID(%d, %d) is %#x, want %#x", c.who, c.seq, got, c.want)
		}
	}
}

func TestNeeds(t *testing.T) { // P12.1
	for _, c := range []struct {
		what string
		p    api.Patch
		want []uint32
	}{
		{"nothing", api.Patch{}, nil},
		{"of everything", right(), []uint32{older, old}},
		{"the Deps play no part", api.Patch{ID: me, Deps: []uint32{1, 2, old}}, nil},
		{"no Deps are told", api.Patch{ID: me, Hunks: right().Hunks}, []uint32{older, old}},
		{"an edge's A", alone(api.Hunk{Edges: []api.Edge{edge(line(5, 0), line(me, 0))}}), []uint32{5}},
		{"an edge's B", alone(api.Hunk{Edges: []api.Edge{edge(line(me, 0), line(5, 0))}}), []uint32{5}},
		{"both", alone(api.Hunk{Edges: []api.Edge{edge(line(6, 0), line(5, 0))}}), []uint32{5, 6}},
		{"a kill", alone(api.Hunk{Kills: []api.LineID{line(5, 0)}}), []uint32{5}},
		{"each once", alone(api.Hunk{Edges: []api.Edge{edge(line(5, 0), line(5, 1)), edge(line(5, 1), line(6, 0))}, Kills: []api.LineID{line(5, 2), line(6, 0)}}), []uint32{5, 6}},
		{"through all hunks, falling", alone(api.Hunk{Kills: []api.LineID{line(9, 0)}}, api.Hunk{}, api.Hunk{Edges: []api.Edge{edge(line(8, 0), line(9, 0))}}, api.Hunk{Kills: []api.LineID{line(7, 0), line(9, 0)}}), []uint32{7, 8, 9}},
		{"but itself", alone(api.Hunk{Edges: []api.Edge{edge(line(me, 0), line(me, 1))}, Kills: []api.LineID{line(me, 0)}}), nil},
		{"above it and below it", alone(api.Hunk{Kills: []api.LineID{line(me+1, 0), line(me, 0), line(me-1, 0)}}), []uint32{me - 1, me + 1}},
		{"the least and the greatest", alone(api.Hunk{Kills: []api.LineID{line(math.MaxUint32, 0), line(0, 0), line(1<<31, 0)}}), []uint32{0, 1 << 31, math.MaxUint32}},
		{"0, of a patch 0", api.Patch{Hunks: []api.Hunk{{Kills: []api.LineID{line(0, 0), line(1, 0)}}}}, []uint32{1}},
		{"numbers of lines play no part", alone(api.Hunk{Kills: []api.LineID{line(5, math.MinInt), line(5, math.MaxInt), line(5, -1)}}), []uint32{5}},
		{"of as much as may be", full(), []uint32{older, old}},
	} {
		if got := Needs(c.p); !slices.Equal(got, c.want) {
			t.Errorf("P12.1: %s: Needs is %v, want %v", c.what, got, c.want)
		}
	}
}

// TestNeedsOfMany goes far past the limits.
func TestNeedsOfMany(t *testing.T) { // P12.1
	var h api.Hunk
	for i := range 300000 {
		h.Kills = append(h.Kills, line(uint32(i*7919%300007), i))
	}
	got := Needs(alone(h, h))
	// Each of these numbers is told but once, and me is one of them.
	if len(got) != 299999 || !slices.IsSorted(got) || got[0] != 0 || slices.Contains(got, me) {
		t.Errorf("P12.1: Needs has %d", len(got))
	}
}

// changed: a right patch, changed by does.
func changed(does func(p *api.Patch)) api.Patch {
	p := right()
	does(&p)
	return p
}

// expectIs holds each patch, beside its name, against want.
func expectIs(t *testing.T, what string, p api.Patch, want bool) {
	t.Helper()
	if got := Is(p); got != want {
		t.Errorf("P12.2: %s: Is is %v", what, got)
	}
}

func TestIs(t *testing.T) { // P12.2
	expectIs(t, "of everything", right(), true)
	expectIs(t, "as much as may be", full(), true)
	expectIs(t, "nothing", api.Patch{}, false)
	expectIs(t, "a number alone", api.Patch{ID: 1}, true)
	expectIs(t, "the greatest number", api.Patch{ID: math.MaxUint32}, true)
	expectIs(t, "empty lists", api.Patch{ID: 1, Deps: []uint32{}, Makes: []string{}, Drops: []string{}, Hunks: []api.Hunk{}}, true)
	expectIs(t, "a hunk of nothing", alone(api.Hunk{Path: "a"}), true)
	expectIs(t, "a hunk of empty lists", alone(api.Hunk{Path: "a", Adds: []string{}, Edges: []api.Edge{}, Kills: []api.LineID{}}), true)
	expectIs(t, "the example", api.Patch{ID: 1, Makes: []string{"a"}, Hunks: []api.Hunk{{Path: "a", Adds: []string{"x\n"}}}}, true)
	expectIs(t, "no number", changed(func(p *api.Patch) { p.ID = 0 }), false)
}

func TestIsDeps(t *testing.T) { // P12.2
	for _, c := range []struct {
		what string
		deps []uint32
		want bool
	}{
		{"as named", []uint32{older, old}, true},
		{"more than are named", []uint32{1, older, old, old + 1, math.MaxUint32}, true},
		{"one is missing", []uint32{older}, false},
		{"the other one is missing", []uint32{old}, false},
		{"none", nil, false},
		{"falling", []uint32{old, older}, false},
		{"falling at last", []uint32{older, old, 7}, false},
		{"one twice", []uint32{older, older, old}, false},
		{"the last one twice", []uint32{older, old, old}, false},
		{"0", []uint32{0, older, old}, false},
		{"its own", []uint32{older, old, me}, false},
		{"its own within", []uint32{older, old, me, me + 1}, false},
		{"beside its own", []uint32{older, old, me - 1, me + 1}, true},
		{"60", append(some(58), older, old), true},
		{"61", append(some(59), older, old), false},
		{"very many", append(some(1<<16), older, old), false},
	} {
		expectIs(t, c.what, changed(func(p *api.Patch) { p.Deps = c.deps }), c.want)
	}
	for _, c := range []struct {
		what string
		h    api.Hunk
	}{
		{"an edge's A needs one more", api.Hunk{Path: "x", Edges: []api.Edge{edge(line(5, 0), line(old, 0))}}},
		{"an edge's B needs one more", api.Hunk{Path: "x", Edges: []api.Edge{edge(line(old, 0), line(5, 0))}}},
		{"a kill needs one more", api.Hunk{Path: "x", Kills: []api.LineID{line(5, 0)}}},
	} {
		p := alone(api.Hunk{Path: "a"}, c.h)
		expectIs(t, c.what, p, false)
		p.Deps = append([]uint32{5}, p.Deps...)
		expectIs(t, c.what+", which is told", p, true)
	}
	expectIs(t, "a line of patch 0", alone(api.Hunk{Path: "x", Kills: []api.LineID{line(0, 0)}}), false)
	zero := alone(api.Hunk{Path: "x", Kills: []api.LineID{line(0, 0)}})
	zero.Deps = append([]uint32{0}, zero.Deps...)
	expectIs(t, "a line of patch 0, which is told", zero, false)
}

func TestIsPaths(t *testing.T) { // P12.2
	for _, c := range []struct {
		what string
		l    []string
		want bool
	}{
		{"none", nil, true},
		{"one", []string{"x"}, true},
		{"rising", []string{"x", "xx", "y"}, true},
		{"rising byte by byte", []string{".", "/", "0", "9", "e", "z"}, true},
		{"the longer first", []string{"xx", "x"}, false},
		{"falling", []string{"y", "x"}, false},
		{"falling at last", []string{"w", "y", "x"}, false},
		{"a letter ahead of a digit", []string{"a", "0"}, false},
		{"one twice", []string{"x", "x"}, false},
		{"one twice at last", []string{"w", "x", "x"}, false},
		{"no path", []string{""}, false},
		{"no path ahead of one", []string{"A", "x"}, false},
		{"no path at last", []string{"x", "y z"}, false},
		{"20 bytes", []string{strings.Repeat("x", 20)}, true},
		{"21 bytes", []string{strings.Repeat("x", 21)}, false},
		{"6", rows(0, 6), true},
		{"7", rows(0, 7), false},
		{"very many", rows(0, 800), false},
	} {
		expectIs(t, "Makes: "+c.what, changed(func(p *api.Patch) { p.Makes = c.l }), c.want)
		expectIs(t, "Drops: "+c.what, changed(func(p *api.Patch) { p.Drops = c.l }), c.want)
		var hunks []api.Hunk
		for _, path := range c.l {
			hunks = append(hunks, api.Hunk{Path: path})
		}
		expectIs(t, "hunks: "+c.what, alone(hunks...), c.want)
	}
	for _, c := range []struct {
		what         string
		makes, drops []string
		want         bool
	}{
		{"6 and 6", rows(0, 6), rows(6, 12), true},
		{"7 and none", rows(0, 7), nil, false},
		{"none and 7", nil, rows(0, 7), false},
		{"one by one", []string{"a", "c", "e"}, []string{"b", "d", "f"}, true},
		{"the same", []string{"a"}, []string{"a"}, false},
		{"the first of one is the last of the other", []string{"c", "d"}, []string{"a", "b", "c"}, false},
		{"the last of one is the first of the other", []string{"a", "b", "c"}, []string{"c", "d"}, false},
		{"one within", []string{"a", "c", "e"}, []string{"b", "c", "f"}, false},
		{"all but one unlike, at 6 and 6", rows(0, 6), rows(5, 11), false},
		{"one begins another", []string{"a"}, []string{"aa"}, true},
	} {
		expectIs(t, c.what, api.Patch{ID: me, Makes: c.makes, Drops: c.drops}, c.want)
	}
	for _, p := range []api.Patch{
		{ID: me, Makes: []string{"a"}, Hunks: []api.Hunk{{Path: "a"}}},
		{ID: me, Drops: []string{"a"}, Hunks: []api.Hunk{{Path: "a"}}},
		{ID: me, Makes: []string{"a"}, Drops: []string{"b"}, Hunks: []api.Hunk{{Path: "c"}}},
	} {
		expectIs(t, "a hunk of whichever path", p, true)
	}
}

func TestIsAdds(t *testing.T) { // P12.2
	x := func(n int) string { return strings.Repeat("x", n) }
	for _, c := range []struct {
		what string
		l    []string
		want bool
	}{
		{"one without its end", []string{"a"}, true},
		{"one with it", []string{"a\n"}, true},
		{"an end alone", []string{"\n"}, true},
		{"one without its end ahead of others", []string{"a", "b", "c\n"}, true},
		{"the same twice", []string{"a\n", "a\n"}, true},
		{"falling", []string{"b\n", "a\n"}, true},
		{"an empty one", []string{""}, false},
		{"an empty one at last", []string{"a\n", ""}, false},
		{"an end within", []string{"a\nb"}, false},
		{"an end ahead", []string{"\na"}, false},
		{"two ends", []string{"\n\n"}, false},
		{"an end within, and one behind", []string{"a\nb\n"}, false},
		{"an end within the last one", []string{"a\n", "b\nc\n"}, false},
		{"other ends", []string{"a\rb\vc\fd\u0085e\u2028"}, true},
		{"bytes that are no runes", []string{"\xff\xe2\x80\n", "\x00"}, true},
		{"10 within what isn't a rune", []string{"\xe2\n\x80"}, false},
		{"60 bytes", []string{x(60)}, true},
		{"60 bytes with the end", []string{x(59) + "\n"}, true},
		{"61 bytes", []string{x(61)}, false},
		{"60 bytes, and the end", []string{x(60) + "\n"}, false},
		{"61 bytes at last", []string{"a\n", x(61)}, false},
		{"very many bytes", []string{x(1 << 20)}, false},
		{"30 runes of two bytes", []string{strings.Repeat("\u00e4", 30)}, true},
		{"31 runes of two bytes", []string{strings.Repeat("\u00e4", 31)}, false},
		{"40", adds(40), true},
		{"41", adds(41), false},
		{"very many", adds(1 << 16), false},
	} {
		expectIs(t, c.what, alone(api.Hunk{Path: "a", Adds: c.l}), c.want)
		expectIs(t, "behind another hunk: "+c.what, alone(api.Hunk{Path: "a", Adds: adds(3)}, api.Hunk{Path: "b", Adds: c.l}), c.want)
	}
	expectIs(t, "40 in each of 6 hunks", full(), true)
	expectIs(t, "41 in two hunks", alone(api.Hunk{Path: "a", Adds: adds(21)}, api.Hunk{Path: "b", Adds: adds(20)}), true)
}

func TestIsEdges(t *testing.T) { // P12.2
	last := edge(line(old, 3), line(old, 4))
	for _, c := range []struct {
		what string
		l    []api.Edge
		want bool
	}{
		{"by A's patch", []api.Edge{edge(line(older, 9), line(old, 9)), edge(line(old, 0), line(older, 0))}, true},
		{"falling by A's patch", []api.Edge{edge(line(old, 0), line(older, 0)), edge(line(older, 9), line(old, 9))}, false},
		{"by A's number", []api.Edge{edge(line(old, 1), line(old, 9)), edge(line(old, 2), line(older, 0))}, true},
		{"falling by A's number", []api.Edge{edge(line(old, 2), line(older, 0)), edge(line(old, 1), line(old, 9))}, false},
		{"by B's patch", []api.Edge{edge(line(old, 1), line(older, 9)), edge(line(old, 1), line(old, 0))}, true},
		{"falling by B's patch", []api.Edge{edge(line(old, 1), line(old, 0)), edge(line(old, 1), line(older, 9))}, false},
		{"by B's number", []api.Edge{edge(line(old, 1), line(older, 8)), edge(line(old, 1), line(older, 9))}, true},
		{"falling by B's number", []api.Edge{edge(line(old, 1), line(older, 9)), edge(line(old, 1), line(older, 8))}, false},
		{"one twice", []api.Edge{last, last}, false},
		{"one twice at last", []api.Edge{edge(line(older, 0), line(older, 1)), last, last}, false},
		{"falling at last", []api.Edge{edge(line(older, 0), line(older, 1)), last, edge(line(old, 3), line(old, 2))}, false},
		{"both ways round", []api.Edge{edge(line(old, 3), line(old, 4)), edge(line(old, 4), line(old, 3))}, true},
		{"to itself", []api.Edge{edge(line(old, 3), line(old, 3))}, false},
		{"to itself, an own one", []api.Edge{edge(line(me, 0), line(me, 0))}, false},
		{"to itself at last", []api.Edge{last, edge(line(me, 1), line(me, 1))}, false},
		{"to the same number of another patch", []api.Edge{edge(line(old, 3), line(older, 3))}, true},
		{"80", edges(80), true},
		{"81", edges(81), false},
		{"very many", edges(1600), false},
	} {
		expectIs(t, c.what, alone(api.Hunk{Path: "a", Adds: adds(2), Edges: c.l}), c.want)
	}
	expectIs(t, "the same ones in two hunks", alone(api.Hunk{Path: "a", Edges: edges(80)}, api.Hunk{Path: "b", Edges: edges(80)}), true)
}

func TestIsKills(t *testing.T) { // P12.2
	for _, c := range []struct {
		what string
		l    []api.LineID
		want bool
	}{
		{"by their patches", []api.LineID{line(older, 9), line(old, 0)}, true},
		{"falling by their patches", []api.LineID{line(old, 0), line(older, 9)}, false},
		{"by their numbers", []api.LineID{line(old, 0), line(old, 39)}, true},
		{"falling by their numbers", []api.LineID{line(old, 39), line(old, 0)}, false},
		{"falling at last", []api.LineID{line(older, 0), line(old, 5), line(old, 4)}, false},
		{"one twice", []api.LineID{line(old, 5), line(old, 5)}, false},
		{"its own", []api.LineID{line(me, 0)}, false},
		{"its own at last", []api.LineID{line(old, 0), line(me, 1)}, false},
		{"40", kills(40), true},
		{"41", append([]api.LineID{line(older, 0)}, kills(40)...), false},
		{"very many", slices.Repeat(kills(40), 100), false},
	} {
		expectIs(t, c.what, alone(api.Hunk{Path: "a", Adds: adds(2), Kills: c.l}), c.want)
	}
	expectIs(t, "the same ones in two hunks", alone(api.Hunk{Path: "a", Kills: kills(40)}, api.Hunk{Path: "b", Kills: kills(40)}), true)
	expectIs(t, "its own, of another hunk", alone(api.Hunk{Path: "a", Adds: adds(2)}, api.Hunk{Path: "b", Kills: []api.LineID{line(me, 0)}}), false)
}

func TestIsNumbers(t *testing.T) { // P12.2, P12.3
	for _, n := range append(wrong, 0, 39) {
		want := n >= 0 && n < 40
		what := "number " + strconv.Itoa(n)
		expectIs(t, what+" at A", alone(api.Hunk{Path: "a", Edges: []api.Edge{edge(line(older, n), line(old, 1))}}), want)
		expectIs(t, what+" at B", alone(api.Hunk{Path: "a", Edges: []api.Edge{edge(line(older, 1), line(old, n))}}), want)
		expectIs(t, what+" killed", alone(api.Hunk{Path: "a", Kills: []api.LineID{line(old, n)}}), want)
		expectIs(t, what+", own, at A", alone(api.Hunk{Path: "a", Adds: adds(40), Edges: []api.Edge{edge(line(me, n), line(me, 1))}}), want)
		expectIs(t, what+", own, at B", alone(api.Hunk{Path: "a", Adds: adds(40), Edges: []api.Edge{edge(line(me, 1), line(me, n))}}), want)
	}
}

// TestIsOwnNumbers names each of a patch's own lines, and some that it hasn't, in each of three hunks.
func TestIsOwnNumbers(t *testing.T) { // P12.2, P12.3
	for _, counts := range [][]int{{2, 3, 1}, {0, 1, 0}, {0, 0, 0}, {3, 0, 2}, {1, 40, 4}, {40, 1, 40}, {20, 19, 2}} {
		for n := -2; n < 90; n++ {
			from := 0
			for k, count := range counts {
				want := n >= from && n < from+count && n < 40
				for _, e := range []api.Edge{edge(line(old, 0), line(me, n)), edge(line(me, n), line(old, 0))} {
					p := alone()
					for i, path := range []string{"a", "b", "c"} {
						p.Hunks = append(p.Hunks, api.Hunk{Path: path, Adds: adds(counts[i])})
					}
					p.Hunks[k].Edges = []api.Edge{e}
					if Is(p) != want {
						t.Fatalf("P12.2: hunks of %v lines, hunk %d names %d: Is is %v", counts, k, n, !want)
					}
				}
				from += count
			}
		}
	}
}

func TestLinesAndPaths(t *testing.T) { // P12.3
	for _, c := range []struct {
		what  string
		p     api.Patch
		lines int
		paths []string
	}{
		{"nothing", api.Patch{}, 0, nil},
		{"of everything", right(), 5, []string{"a", "b", "c", "d", "d/e.f", "g"}},
		{"Makes alone", api.Patch{Makes: []string{"a"}}, 0, []string{"a"}},
		{"Drops alone", api.Patch{Drops: []string{"a"}}, 0, []string{"a"}},
		{"hunks alone", api.Patch{Hunks: []api.Hunk{{Path: "a", Adds: adds(2)}}}, 2, []string{"a"}},
		{"one everywhere", api.Patch{Makes: []string{"a"}, Drops: []string{"a"}, Hunks: []api.Hunk{{Path: "a"}}}, 0, []string{"a"}},
		{"one by one", api.Patch{Makes: []string{"a", "d"}, Drops: []string{"b", "e"}, Hunks: []api.Hunk{{Path: "c", Adds: adds(1)}, {Path: "f", Adds: adds(40)}}}, 41, []string{"a", "b", "c", "d", "e", "f"}},
		{"no paths, falling, twice", api.Patch{Makes: []string{"z", "", "z"}, Drops: []string{"B", "A\n"}, Hunks: []api.Hunk{{Path: "\xff"}, {Path: "zz", Adds: []string{"", "a\nb"}}, {Path: "B", Adds: adds(50)}}}, 52, []string{"", "A\n", "B", "z", "zz", "\xff"}},
		{"edges and kills play no part", alone(api.Hunk{Path: "a", Edges: edges(3), Kills: kills(2)}), 0, []string{"a"}},
		{"as much as may be", full(), 240, slices.Concat(rows(0, 12), []string{"120zzzzzzzzzzzzzzzzz", "121zzzzzzzzzzzzzzzzz", "122zzzzzzzzzzzzzzzzz", "123zzzzzzzzzzzzzzzzz", "124zzzzzzzzzzzzzzzzz", "125zzzzzzzzzzzzzzzzz"})},
	} {
		if got := Lines(c.p); got != c.lines {
			t.Errorf("P12.3: %s: Lines is %d, want %d", c.what, got, c.lines)
		}
		if got := Paths(c.p); !slices.Equal(got, c.paths) {
			t.Errorf("P12.3: %s: Paths is %q, want %q", c.what, got, c.paths)
		}
	}
}

// ways: of a right patch each way to make it another one.
var ways = []struct {
	what string
	does func(p *api.Patch)
}{
	{"ID", func(p *api.Patch) { p.ID++ }},
	{"ID's upper half", func(p *api.Patch) { p.ID += 1 << 16 }},
	{"a Dep", func(p *api.Patch) { p.Deps[1]++ }},
	{"a Dep less", func(p *api.Patch) { p.Deps = p.Deps[:1] }},
	{"a Dep more", func(p *api.Patch) { p.Deps = append(p.Deps, 7) }},
	{"Deps turned", func(p *api.Patch) { slices.Reverse(p.Deps) }},
	{"no Deps", func(p *api.Patch) { p.Deps = nil }},
	{"a Make", func(p *api.Patch) { p.Makes[1] = "e" }},
	{"a Make less", func(p *api.Patch) { p.Makes = p.Makes[1:] }},
	{"a Make more", func(p *api.Patch) { p.Makes = append(p.Makes, "") }},
	{"a Drop", func(p *api.Patch) { p.Drops[0] += "a" }},
	{"a Drop less", func(p *api.Patch) { p.Drops = p.Drops[:1] }},
	{"no Drops", func(p *api.Patch) { p.Drops = nil }},
	{"Makes and Drops exchanged", func(p *api.Patch) { p.Makes, p.Drops = p.Drops, p.Makes }},
	{"a hunk less", func(p *api.Patch) { p.Hunks = p.Hunks[:2] }},
	{"a hunk more", func(p *api.Patch) { p.Hunks = append(p.Hunks, api.Hunk{}) }},
	{"hunks turned", func(p *api.Patch) { slices.Reverse(p.Hunks) }},
	{"no hunks", func(p *api.Patch) { p.Hunks = nil }},
	{"a path", func(p *api.Patch) { p.Hunks[2].Path = "h" }},
	{"an Add", func(p *api.Patch) { p.Hunks[0].Adds[1] = "2\n" }},
	{"an Add less", func(p *api.Patch) { p.Hunks[2].Adds = p.Hunks[2].Adds[:2] }},
	{"an Add more", func(p *api.Patch) { p.Hunks[1].Adds = []string{""} }},
	{"Adds turned", func(p *api.Patch) { slices.Reverse(p.Hunks[2].Adds) }},
	{"an Add in another hunk", func(p *api.Patch) { p.Hunks[0].Adds, p.Hunks[1].Adds = p.Hunks[0].Adds[:1], p.Hunks[0].Adds[1:] }},
	{"an edge's A's patch", func(p *api.Patch) { p.Hunks[2].Edges[1].A.Patch++ }},
	{"an edge's A's number", func(p *api.Patch) { p.Hunks[2].Edges[1].A.N++ }},
	{"an edge's B's patch", func(p *api.Patch) { p.Hunks[2].Edges[1].B.Patch++ }},
	{"an edge's B's number", func(p *api.Patch) { p.Hunks[2].Edges[1].B.N++ }},
	{"an edge less", func(p *api.Patch) { p.Hunks[1].Edges = nil }},
	{"an edge more", func(p *api.Patch) { p.Hunks[1].Edges = append(p.Hunks[1].Edges, api.Edge{}) }},
	{"a kill's patch", func(p *api.Patch) { p.Hunks[0].Kills[2].Patch-- }},
	{"a kill's number", func(p *api.Patch) { p.Hunks[0].Kills[2].N-- }},
	{"a kill less", func(p *api.Patch) { p.Hunks[0].Kills = p.Hunks[0].Kills[:2] }},
	{"a kill more", func(p *api.Patch) { p.Hunks[1].Kills = make([]api.LineID, 1) }},
	{"kills in another hunk", func(p *api.Patch) { p.Hunks[0].Kills, p.Hunks[1].Kills = nil, p.Hunks[0].Kills }},
}

func TestSame(t *testing.T) { // P12.3
	for i, w := range ways {
		p := changed(w.does)
		if Same(p, right()) || Same(right(), p) {
			t.Errorf("P12.3: another %s is the same", w.what)
		}
		for k, v := range ways {
			if got := Same(p, changed(v.does)); got != (i == k) {
				t.Errorf("P12.3: another %s, another %s: Same is %v", w.what, v.what, got)
			}
		}
	}
	for _, c := range []struct {
		what string
		a, b api.Patch
		want bool
	}{
		{"nothing", api.Patch{}, api.Patch{}, true},
		{"right ones", right(), right(), true},
		{"as much as may be", full(), full(), true},
		{"empty lists", api.Patch{ID: 1, Deps: []uint32{}, Makes: []string{}, Drops: []string{}, Hunks: []api.Hunk{}}, api.Patch{ID: 1}, true},
		{"empty lists of a hunk", alone(api.Hunk{Adds: []string{}, Edges: []api.Edge{}, Kills: []api.LineID{}}), alone(api.Hunk{}), true},
		{"a hunk of nothing, none", api.Patch{Hunks: []api.Hunk{{}}}, api.Patch{}, false},
		{"an empty path, none", api.Patch{Makes: []string{""}}, api.Patch{}, false},
		{"ill-formed ones", api.Patch{Deps: []uint32{0, 0}, Makes: []string{"B", "A"}, Hunks: []api.Hunk{{Kills: []api.LineID{line(0, -1)}}}}, api.Patch{Deps: []uint32{0, 0}, Makes: []string{"B", "A"}, Hunks: []api.Hunk{{Kills: []api.LineID{line(0, -1)}}}}, true},
	} {
		if Same(c.a, c.b) != c.want || Same(c.b, c.a) != c.want {
			t.Errorf("P12.3: %s: Same is %v", c.what, !c.want)
		}
	}
}

// spoil overwrites all that p's lists hold, their spare room too.
func spoil(p api.Patch) {
	spoilList(p.Deps, 77)
	spoilList(p.Makes, "spoilt")
	spoilList(p.Drops, "spoilt")
	for _, h := range p.Hunks {
		spoilList(h.Adds, "spoilt")
		spoilList(h.Edges, edge(line(77, 77), line(77, 77)))
		spoilList(h.Kills, line(77, 77))
	}
	spoilList(p.Hunks, api.Hunk{Path: "spoilt"})
}

func spoilList[T any](l []T, by T) {
	l = l[:cap(l)]
	for k := range l {
		l[k] = by
	}
}

func TestCopy(t *testing.T) { // P12.3
	for _, p := range []api.Patch{
		{},
		right(),
		full(),
		{ID: 1, Deps: []uint32{}, Makes: []string{}, Drops: []string{}, Hunks: []api.Hunk{{Adds: []string{}}}},
		{Deps: []uint32{0, 0}, Makes: []string{"B", "A"}, Drops: []string{"B"}, Hunks: []api.Hunk{{}, {Path: "\n", Kills: []api.LineID{line(0, -1)}}}},
		alone(api.Hunk{Adds: adds(300), Edges: edges(300), Kills: slices.Repeat(kills(40), 3)}),
	} {
		was, earlier, spoilt := Copy(p), Copy(p), Copy(p)
		if !Same(was, p) || !Same(p, earlier) || Is(was) != Is(p) {
			t.Errorf("P12.3: a copy of patch %d isn't the same", p.ID)
		}
		spoil(spoilt)
		if !Same(p, was) || !Same(earlier, was) || !Same(Copy(p), was) {
			t.Errorf("P12.3: patch %d or another copy is touched by a copy", p.ID)
		}
		spoil(p)
		if !Same(earlier, was) {
			t.Errorf("P12.3: a copy is touched by patch %d", p.ID)
		}
	}
	for _, w := range ways {
		p := right()
		c := Copy(p)
		w.does(&c)
		if !Same(p, right()) || Same(p, c) {
			t.Errorf("P12.3: a copy with another %s", w.what)
		}
	}
}

// TestCopyOfPiecesOfOneList has lists that share their memory: a copy's don't.
func TestCopyOfPiecesOfOneList(t *testing.T) { // P12.3
	texts, lines, rows := []string{"a", "b", "c", "d", "e", "f"}, kills(6), edges(6)
	p := api.Patch{ID: me, Makes: texts[:1], Drops: texts[1:2], Hunks: []api.Hunk{
		{Path: "x", Adds: texts[2:4], Edges: rows[:2], Kills: lines[:2]},
		{Path: "y", Adds: texts[3:5], Edges: rows[1:3], Kills: lines[1:3]},
	}}
	c := Copy(p)
	// What is said of one list is said of none of the others.
	c.Makes = append(c.Makes, "spoilt")
	for i, h := range c.Hunks {
		c.Hunks[i].Adds, c.Hunks[i].Edges, c.Hunks[i].Kills = append(h.Adds, "spoilt"), append(h.Edges, api.Edge{}), append(h.Kills, line(77, 77))
	}
	spoilList(c.Hunks[0].Adds, "spoilt")
	spoilList(c.Hunks[0].Edges, api.Edge{})
	spoilList(c.Hunks[0].Kills, line(77, 77))
	if c.Drops[0] != "b" || !slices.Equal(c.Hunks[1].Adds, []string{"d", "e", "spoilt"}) || !slices.Equal(c.Hunks[1].Kills, append(kills(3)[1:], line(77, 77))) || !slices.Equal(c.Hunks[1].Edges, append(edges(3)[1:], api.Edge{})) {
		t.Errorf("P12.3: lists of a copy share memory: %v", c)
	}
	if !slices.Equal(texts, []string{"a", "b", "c", "d", "e", "f"}) || !slices.Equal(lines, kills(6)) || !slices.Equal(rows, edges(6)) {
		t.Errorf("P12.3: what was handed in is touched: %q", texts)
	}
}

// roomy: a patch whose lists all have more behind them, as pieces of greater ones.
func roomy(p api.Patch) (api.Patch, api.Patch) {
	room := Copy(p)
	room.Deps = append(room.Deps, 7)
	room.Makes = append(room.Makes, "more")
	room.Drops = append(room.Drops, "more")
	room.Hunks = append(room.Hunks, api.Hunk{Path: "more", Adds: adds(3), Edges: edges(3), Kills: kills(3)})
	front := room
	front.Deps, front.Makes, front.Drops, front.Hunks = room.Deps[:len(p.Deps)], room.Makes[:len(p.Makes)], room.Drops[:len(p.Drops)], room.Hunks[:len(p.Hunks)]
	for k := range front.Hunks {
		h := &front.Hunks[k]
		h.Adds = append(h.Adds, "more")[:len(h.Adds)]
		h.Edges = append(h.Edges, edge(line(5, 5), line(6, 6)))[:len(h.Edges)]
		h.Kills = append(h.Kills, line(5, 5))[:len(h.Kills)]
	}
	return front, room
}

// stretched: a copy of p with one more in each of its lists, as it stands in their spare room.
func stretched(p api.Patch) api.Patch {
	return Copy(api.Patch{ID: p.ID, Deps: p.Deps[:len(p.Deps)+1], Makes: p.Makes[:len(p.Makes)+1], Drops: p.Drops[:len(p.Drops)+1], Hunks: p.Hunks[:len(p.Hunks)+1]})
}

// TestNothingIsSharedOrChanged hands in the fronts of lists, with more behind them.
func TestNothingIsSharedOrChanged(t *testing.T) { // P12.1, P12.2, P12.3
	for _, p := range []api.Patch{right(), full(), {ID: 1}, alone(api.Hunk{Path: "z", Kills: []api.LineID{line(9, 0), line(8, 0), line(9, 0)}}, api.Hunk{Path: "y"})} {
		front, room := roomy(p)
		was := stretched(front)
		wantNeeds, wantPaths, wantIs, wantLines := Needs(p), Paths(p), Is(p), Lines(p)
		for range 2 {
			needs, paths := Needs(front), Paths(front)
			if !slices.Equal(needs, wantNeeds) || !slices.Equal(paths, wantPaths) || Is(front) != wantIs || Lines(front) != wantLines || !Same(front, p) || !Same(p, Copy(front)) {
				t.Errorf("P12.3: of a patch with spare room: %v, %q", needs, paths)
			}
			spoilList(needs, 77)
			spoilList(paths, "spoilt")
			spoil(Copy(front))
		}
		if !Same(stretched(front), was) || !Same(front, p) || len(room.Hunks) != len(p.Hunks)+1 {
			t.Errorf("P12.3: what was handed in is changed: %v", front)
		}
		for k, h := range front.Hunks {
			if h.Adds[:len(h.Adds)+1][len(h.Adds)] != "more" || h.Edges[:len(h.Edges)+1][len(h.Edges)] != edge(line(5, 5), line(6, 6)) || h.Kills[:len(h.Kills)+1][len(h.Kills)] != line(5, 5) {
				t.Errorf("P12.3: hunk %d's spare room is changed", k)
			}
		}
	}
}

// TestPathsOfOneListAlone: what is answered is new, also where there is but one list to tell.
func TestPathsOfOneListAlone(t *testing.T) { // P12.3
	for _, p := range []api.Patch{{Makes: []string{"b", "a"}}, {Drops: []string{"b", "a"}}} {
		was := Copy(p)
		got := Paths(p)
		if !slices.Equal(got, []string{"a", "b"}) {
			t.Errorf("P12.3: Paths is %q", got)
		}
		spoilList(got, "spoilt")
		if !Same(p, was) {
			t.Errorf("P12.3: what was handed in is changed: %v", p)
		}
	}
}

// TestAPatchSaysWhatItNeeds: just what Needs tells must be said, not less.
func TestAPatchSaysWhatItNeeds(t *testing.T) { // P12.4
	random := rand.New(rand.NewSource(12))
	for range 2000 {
		p := api.Patch{ID: me}
		for _, path := range []string{"a", "b", "c"} {
			h := api.Hunk{Path: path}
			for range random.Intn(4) {
				a, b := line(uint32(1+random.Intn(6)), random.Intn(40)), line(uint32(1+random.Intn(6)), random.Intn(40))
				if a != b {
					h.Edges = append(h.Edges, edge(a, b))
				}
			}
			for range random.Intn(4) {
				h.Kills = append(h.Kills, line(uint32(1+random.Intn(6)), random.Intn(40)))
			}
			slices.SortFunc(h.Edges, func(a, b api.Edge) int { return order(key(a), key(b)) })
			slices.SortFunc(h.Kills, func(a, b api.LineID) int { return order([]int{int(a.Patch), a.N}, []int{int(b.Patch), b.N}) })
			h.Edges, h.Kills = slices.Compact(h.Edges), slices.Compact(h.Kills)
			p.Hunks = append(p.Hunks, h)
		}
		p.Deps = Needs(p)
		if !Is(p) {
			t.Fatalf("P12.4: %v is no patch, though it says what it needs", p)
		}
		for k, id := range Needs(p) {
			p.Deps = slices.Delete(Needs(p), k, k+1)
			if Is(p) {
				t.Fatalf("P12.4: %v is a patch, though it doesn't say that it needs %d", p, id)
			}
		}
		p.Deps = append(Needs(p), 100)
		if !Is(p) {
			t.Fatalf("P12.4: %v is no patch, though it says what it needs", p)
		}
	}
}

func key(e api.Edge) []int { return []int{int(e.A.Patch), e.A.N, int(e.B.Patch), e.B.N} }

// order: rows of numbers, by the first that differs.
func order(a, b []int) int {
	for i := range a {
		if a[i] != b[i] {
			if a[i] < b[i] {
				return -1
			}
			return 1
		}
	}
	return 0
}

// isByHand: the chapter's rules, one by one, each of two things held against each other as rows of numbers.
func isByHand(p api.Patch) bool {
	ok := p.ID > 0 && len(p.Deps) <= 60 && len(p.Makes) <= 6 && len(p.Drops) <= 6 && len(p.Hunks) <= 6
	needed := map[uint32]bool{}
	for i, d := range p.Deps {
		ok = ok && d != 0 && d != p.ID && (i == 0 || p.Deps[i-1] < d)
		needed[d] = true
	}
	made := map[string]bool{}
	for i, s := range p.Makes {
		ok = ok && IsPath(s) && (i == 0 || p.Makes[i-1] < s)
		made[s] = true
	}
	for i, s := range p.Drops {
		ok = ok && IsPath(s) && (i == 0 || p.Drops[i-1] < s) && !made[s]
	}
	where := map[int]int{} // of each own number, the hunk that adds it
	for k, h := range p.Hunks {
		for range h.Adds {
			where[len(where)] = k
		}
	}
	for k, h := range p.Hunks {
		ok = ok && IsPath(h.Path) && (k == 0 || p.Hunks[k-1].Path < h.Path) && len(h.Adds) <= 40 && len(h.Edges) <= 80 && len(h.Kills) <= 40
		for _, s := range h.Adds {
			ok = ok && s != "" && len(s) <= 60 && !strings.Contains(s[:len(s)-1], "\n")
		}
		may := func(l api.LineID) bool {
			if l.N < 0 || l.N > 39 {
				return false
			}
			if l.Patch == p.ID {
				hunk, there := where[l.N]
				return there && hunk == k
			}
			return needed[l.Patch]
		}
		for i, e := range h.Edges {
			ok = ok && may(e.A) && may(e.B) && e.A != e.B && (i == 0 || order(key(h.Edges[i-1]), key(e)) < 0)
		}
		for i, l := range h.Kills {
			ok = ok && may(l) && l.Patch != p.ID && (i == 0 || order([]int{int(h.Kills[i-1].Patch), h.Kills[i-1].N}, []int{int(l.Patch), l.N}) < 0)
		}
	}
	return ok
}

// TestIsByHand: patches of a few numbers and texts, put together by chance.
func TestIsByHand(t *testing.T) { // P12.2
	random := rand.New(rand.NewSource(122))
	few := func() int { return max(0, random.Intn(5)-2) }
	oneLine := func() api.LineID { return line(uint32(1+random.Intn(3)), random.Intn(4)-random.Intn(60)/59) }
	text := func(l ...string) string { return l[random.Intn(len(l))] }
	texts := func(n int, l ...string) []string {
		var s []string
		for range n {
			s = append(s, text(l...))
		}
		if random.Intn(6) > 0 {
			slices.Sort(s)
		}
		return s
	}
	count := [2]int{}
	for range 200000 {
		p := api.Patch{ID: uint32(min(3, random.Intn(40))), Makes: texts(few(), "a", "b", "c"), Drops: texts(few(), "d", "e", "f", "a")}
		for id := range uint32(5) {
			if id > 0 && random.Intn(5) > 0 && id != p.ID || random.Intn(40) == 0 {
				p.Deps = append(p.Deps, id)
			}
		}
		for _, path := range texts(few(), "a", "b", "c", "d") {
			h := api.Hunk{Path: path}
			for range few() {
				h.Adds = append(h.Adds, text("x", "x\n", "\n", "y", "z", "w", "v\n", text("", "x\ny", "z")))
			}
			for range few() {
				h.Edges = append(h.Edges, edge(oneLine(), oneLine()))
			}
			for range few() {
				h.Kills = append(h.Kills, oneLine())
			}
			if random.Intn(8) > 0 {
				slices.SortFunc(h.Edges, func(a, b api.Edge) int { return order(key(a), key(b)) })
				slices.SortFunc(h.Kills, func(a, b api.LineID) int { return order([]int{int(a.Patch), a.N}, []int{int(b.Patch), b.N}) })
			}
			p.Hunks = append(p.Hunks, h)
		}
		want := isByHand(p)
		if Is(p) != want {
			t.Fatalf("P12.2: %v: Is is %v", p, !want)
		}
		if want {
			count[1]++
		} else {
			count[0]++
		}
	}
	if count[0] < 20000 || count[1] < 20000 {
		t.Errorf("P12.2: by chance %d are none and %d are patches", count[0], count[1])
	}
	for _, w := range ways {
		p := changed(w.does)
		expectIs(t, "another "+w.what, p, isByHand(p))
	}
}
