package state

import (
	"cmp"
	"math"
	"math/rand"
	"slices"
	"strconv"
	"testing"

	"cento/api"
	"cento/arrow"
	"cento/obj"
	"cento/patch"
)

func id(p uint32, n int) api.LineID { return api.LineID{Patch: p, N: n} }

func edge(a, b api.LineID) api.Edge { return api.Edge{A: a, B: b} }

func line(p uint32, n int, text string) api.Line { return api.Line{ID: id(p, n), Text: text} }

func dead(p uint32, n int, text string) api.Line {
	return api.Line{ID: id(p, n), Text: text, Dead: true}
}

// adds: n lines.
func adds(n int) []string { return slices.Repeat([]string{"x\n"}, n) }

// makes: a patch that makes these paths, and has these hunks.
func makes(number uint32, paths []string, hunks ...api.Hunk) api.Patch {
	return needing(api.Patch{ID: number, Makes: paths, Hunks: hunks})
}

// needing: p with what it needs as what it says that it needs.
func needing(p api.Patch) api.Patch {
	p.Deps = patch.Needs(p)
	return p
}

// copies: of each patch one in memory of its own.
func copies(l []api.Patch) []api.Patch {
	var c []api.Patch
	for _, p := range l {
		c = append(c, patch.Copy(p))
	}
	return c
}

// mixed calls does with l as it is, from the back, and in some other orders.
func mixed(l []api.Patch, does func(l []api.Patch)) {
	does(copies(l))
	back := copies(l)
	slices.Reverse(back)
	does(back)
	r := rand.New(rand.NewSource(int64(len(l))))
	for range 8 {
		c := copies(l)
		r.Shuffle(len(c), func(i, k int) { c[i], c[k] = c[k], c[i] })
		does(c)
	}
}

func TestOf(t *testing.T) { // P13.1, P13.3
	a, b := []string{"a"}, []string{"b"}
	ab := []string{"a", "b"}
	for _, c := range []struct {
		what string
		l    []api.Patch
		want []api.File
	}{
		{"no patches", nil, nil},
		{"a patch of nothing", []api.Patch{{ID: 1}}, nil},
		{"a path without a hunk", []api.Patch{makes(1, a)}, []api.File{{Path: "a"}}},
		{"a path with a hunk of nothing", []api.Patch{makes(1, a, api.Hunk{Path: "a"})}, []api.File{{Path: "a"}}},
		{"two lines and an edge", []api.Patch{makes(1, a, api.Hunk{Path: "a", Adds: []string{"1\n", "2"}, Edges: []api.Edge{edge(id(1, 0), id(1, 1))}})},
			[]api.File{{Path: "a", Lines: []api.Line{line(1, 0, "1\n"), line(1, 1, "2")}, Pairs: []api.Pair{{A: 0, B: 1}}}}},
		{"an edge to the front", []api.Patch{makes(1, a, api.Hunk{Path: "a", Adds: []string{"1\n", "2\n"}, Edges: []api.Edge{edge(id(1, 1), id(1, 0))}})},
			[]api.File{{Path: "a", Lines: []api.Line{line(1, 0, "1\n"), line(1, 1, "2\n")}, Pairs: []api.Pair{{A: 1, B: 0}}}}},
		{"a line in a path that nobody makes", []api.Patch{{ID: 1, Hunks: []api.Hunk{{Path: "a", Adds: adds(1)}}}}, nil},
		{"a path that is dropped and never made", []api.Patch{{ID: 1, Drops: a}}, nil},
		{"a path that is made and dropped", []api.Patch{makes(1, ab), {ID: 2, Drops: a}}, []api.File{{Path: "b"}}},
		{"a path that two make and one drops", []api.Patch{makes(1, ab), {ID: 2, Drops: a}, makes(3, a)}, []api.File{{Path: "b"}}},
		{"a path that two make, each with a line", []api.Patch{makes(1, a, api.Hunk{Path: "a", Adds: []string{"1\n"}}), makes(2, a, api.Hunk{Path: "a", Adds: []string{"2\n"}})},
			[]api.File{{Path: "a", Lines: []api.Line{line(1, 0, "1\n"), line(2, 0, "2\n")}}}},
		{"a path that one makes and another fills", []api.Patch{makes(2, a), {ID: 1, Hunks: []api.Hunk{{Path: "a", Adds: []string{"1"}}}}},
			[]api.File{{Path: "a", Lines: []api.Line{line(1, 0, "1")}}}},
		{"paths byte by byte", []api.Patch{makes(1, []string{"a/b", "ab"}), makes(2, []string{"a", "b"}), makes(3, []string{"9", "a.b"})},
			[]api.File{{Path: "9"}, {Path: "a"}, {Path: "a.b"}, {Path: "a/b"}, {Path: "ab"}, {Path: "b"}}},
		{"lines by all of their patches' numbers", []api.Patch{
			makes(1<<31, a, api.Hunk{Path: "a", Adds: []string{"3\n"}}), makes(1<<16|1, a, api.Hunk{Path: "a", Adds: []string{"2\n"}}),
			makes(2, a, api.Hunk{Path: "a", Adds: []string{"1\n"}}), makes(math.MaxUint32, a, api.Hunk{Path: "a", Adds: []string{"4\n"}})},
			[]api.File{{Path: "a", Lines: []api.Line{line(2, 0, "1\n"), line(1<<16|1, 0, "2\n"), line(1<<31, 0, "3\n"), line(math.MaxUint32, 0, "4\n")}}}},
		{"lines counted through all hunks", []api.Patch{makes(1, []string{"a", "c"}, api.Hunk{Path: "a", Adds: []string{"0\n", "1\n"}}, api.Hunk{Path: "b", Adds: []string{"2\n", "3\n", "4\n"}},
			api.Hunk{Path: "c", Adds: []string{"5\n", "6\n"}, Edges: []api.Edge{edge(id(1, 5), id(1, 6))}})},
			[]api.File{{Path: "a", Lines: []api.Line{line(1, 0, "0\n"), line(1, 1, "1\n")}}, {Path: "c", Lines: []api.Line{line(1, 5, "5\n"), line(1, 6, "6\n")}, Pairs: []api.Pair{{A: 0, B: 1}}}}},
		{"lines from the 40th on", []api.Patch{makes(1, b, api.Hunk{Path: "a", Adds: adds(40)}, api.Hunk{Path: "b", Adds: []string{"40\n", "41\n"}})},
			[]api.File{{Path: "b", Lines: []api.Line{line(1, 40, "40\n"), line(1, 41, "41\n")}}}},
		{"a line that is killed", []api.Patch{makes(1, a, api.Hunk{Path: "a", Adds: []string{"0\n", "1\n"}}), makes(2, nil, api.Hunk{Path: "a", Kills: []api.LineID{id(1, 1)}})},
			[]api.File{{Path: "a", Lines: []api.Line{line(1, 0, "0\n"), dead(1, 1, "1\n")}}}},
		{"a line that two kill", []api.Patch{makes(1, a, api.Hunk{Path: "a", Adds: []string{"0\n", "1\n"}}), makes(2, nil, api.Hunk{Path: "a", Kills: []api.LineID{id(1, 0)}}), makes(3, nil, api.Hunk{Path: "a", Kills: []api.LineID{id(1, 0), id(1, 1)}})},
			[]api.File{{Path: "a", Lines: []api.Line{dead(1, 0, "0\n"), dead(1, 1, "1\n")}}}},
		{"kills of no line, of a line of another path, from another path", []api.Patch{makes(1, ab, api.Hunk{Path: "a", Adds: []string{"0\n", "1\n"}}, api.Hunk{Path: "b", Adds: []string{"2\n", "3\n"}}),
			makes(2, nil, api.Hunk{Path: "a", Kills: []api.LineID{id(1, 2), id(1, 4)}}, api.Hunk{Path: "b", Kills: []api.LineID{id(1, 1)}})},
			[]api.File{{Path: "a", Lines: []api.Line{line(1, 0, "0\n"), line(1, 1, "1\n")}}, {Path: "b", Lines: []api.Line{line(1, 2, "2\n"), line(1, 3, "3\n")}}}},
		{"edges over dead lines", []api.Patch{makes(1, a, api.Hunk{Path: "a", Adds: []string{"0\n", "1\n", "2\n"}, Edges: []api.Edge{edge(id(1, 0), id(1, 1)), edge(id(1, 1), id(1, 2))}}), makes(2, nil, api.Hunk{Path: "a", Kills: []api.LineID{id(1, 1)}})},
			[]api.File{{Path: "a", Lines: []api.Line{line(1, 0, "0\n"), dead(1, 1, "1\n"), line(1, 2, "2\n")}, Pairs: []api.Pair{{A: 0, B: 1}, {A: 0, B: 2}, {A: 1, B: 2}}}}},
		{"edges of several patches", []api.Patch{makes(1, a, api.Hunk{Path: "a", Adds: []string{"0\n", "1\n"}, Edges: []api.Edge{edge(id(1, 0), id(1, 1))}}),
			makes(2, nil, api.Hunk{Path: "a", Adds: []string{"2\n"}, Edges: []api.Edge{edge(id(1, 0), id(1, 1)), edge(id(1, 1), id(2, 0))}})},
			[]api.File{{Path: "a", Lines: []api.Line{line(1, 0, "0\n"), line(1, 1, "1\n"), line(2, 0, "2\n")}, Pairs: []api.Pair{{A: 0, B: 1}, {A: 0, B: 2}, {A: 1, B: 2}}}}},
		{"a circle", []api.Patch{makes(1, a, api.Hunk{Path: "a", Adds: []string{"0\n", "1\n", "2\n"}, Edges: []api.Edge{edge(id(1, 0), id(1, 2))}}), makes(2, nil, api.Hunk{Path: "a", Edges: []api.Edge{edge(id(1, 2), id(1, 0))}})},
			[]api.File{{Path: "a", Lines: []api.Line{line(1, 0, "0\n"), line(1, 1, "1\n"), line(1, 2, "2\n")}, Pairs: []api.Pair{{A: 0, B: 0}, {A: 0, B: 2}, {A: 2, B: 0}, {A: 2, B: 2}}}}},
		{"edges told in another path", []api.Patch{makes(1, ab, api.Hunk{Path: "a", Adds: []string{"0\n", "1\n"}}, api.Hunk{Path: "b"}), makes(2, nil, api.Hunk{Path: "b", Edges: []api.Edge{edge(id(1, 0), id(1, 1))}})},
			[]api.File{{Path: "a", Lines: []api.Line{line(1, 0, "0\n"), line(1, 1, "1\n")}}, {Path: "b"}}},
		{"edges over a line of another path, and over none", []api.Patch{makes(1, ab, api.Hunk{Path: "a", Adds: []string{"0\n", "1\n"}}, api.Hunk{Path: "b", Adds: []string{"2\n"}}),
			makes(2, nil, api.Hunk{Path: "a", Edges: []api.Edge{edge(id(1, 0), id(1, 2)), edge(id(1, 0), id(1, 9)), edge(id(1, 2), id(1, 1)), edge(id(1, 9), id(1, 1))}})},
			[]api.File{{Path: "a", Lines: []api.Line{line(1, 0, "0\n"), line(1, 1, "1\n")}}, {Path: "b", Lines: []api.Line{line(1, 2, "2\n")}}}},
		{"a line that is needed of a patch that hasn't it", []api.Patch{makes(1, a), makes(2, nil, api.Hunk{Path: "a", Adds: []string{"0\n"}, Edges: []api.Edge{edge(id(1, 0), id(2, 0))}, Kills: []api.LineID{id(1, 0)}})},
			[]api.File{{Path: "a", Lines: []api.Line{line(2, 0, "0\n")}}}},
		{"a path that comes back, of which another one's end says nothing", []api.Patch{makes(1, a, api.Hunk{Path: "a", Adds: []string{"0\n"}}, api.Hunk{Path: "b", Adds: []string{"1\n"}}), {ID: 2, Drops: b}},
			[]api.File{{Path: "a", Lines: []api.Line{line(1, 0, "0\n")}}}},
	} {
		mixed(c.l, func(l []api.Patch) {
			got, err := Of(l)
			if err != api.OK || !Same(got, c.want) {
				t.Errorf("P13.1: %s: %v, %v, want %v", c.what, got, err, c.want)
			}
			if Count(got) != Count(c.want) || !Closed(l) {
				t.Errorf("P13.2: %s: %d lines, closed %v", c.what, Count(got), Closed(l))
			}
		})
	}
}

// plain: n patches of nothing, from number 1000 on.
func plain(n int) []api.Patch {
	var l []api.Patch
	for i := range n {
		l = append(l, api.Patch{ID: uint32(1000 + i)})
	}
	return l
}

func TestErrors(t *testing.T) { // P13.1, P13.3
	none := api.Patch{}
	lacking := api.Patch{ID: 7, Deps: []uint32{77}}
	seven := []string{"a", "b", "c", "d", "e", "f", "g"}
	long := makes(1, []string{"a"}, api.Hunk{Path: "a", Adds: adds(40)})
	for _, c := range []struct {
		what string
		l    []api.Patch
		want api.Errno
	}{
		{"as many patches as may be", plain(60), api.OK},
		{"one more", plain(61), api.ErrLarge},
		{"many more", plain(5000), api.ErrLarge},
		{"one that is none", []api.Patch{none}, api.ErrForm},
		{"one that is none, among others", append(plain(3), none), api.ErrForm},
		{"one that doesn't say what it needs", []api.Patch{long, {ID: 2, Hunks: []api.Hunk{{Path: "a", Kills: []api.LineID{id(1, 0)}}}}}, api.ErrForm},
		{"one with too long a line", []api.Patch{makes(1, nil, api.Hunk{Path: "a", Adds: []string{string(make([]byte, 61))}})}, api.ErrForm},
		{"one that makes too many paths", []api.Patch{makes(1, seven)}, api.ErrForm},
		{"the same twice", append(plain(3), plain(1)...), api.ErrForm},
		{"the same number, another patch", append(plain(3), api.Patch{ID: 1001, Makes: []string{"a"}}), api.ErrForm},
		{"none and what is needed missing", []api.Patch{lacking, none}, api.ErrForm},
		{"twice and what is needed missing", []api.Patch{lacking, lacking}, api.ErrForm},
		{"twice and too many", append(plain(61), plain(1)...), api.ErrForm},
		{"none and too many", append(plain(61), none), api.ErrForm},
		{"what is needed missing", []api.Patch{lacking}, api.ErrDeps},
		{"what is needed missing, among others", append(plain(3), lacking), api.ErrDeps},
		{"what is needed there", []api.Patch{lacking, {ID: 77}}, api.OK},
		{"what is needed missing, and too many", append(plain(61), lacking), api.ErrDeps},
		{"what is needed missing, and too many paths", []api.Patch{makes(1, seven[:4]), makes(2, seven[3:]), lacking}, api.ErrDeps},
		{"what is needed missing, and too many lines", []api.Patch{long, makes(2, []string{"b"}, api.Hunk{Path: "b", Adds: adds(1)}), lacking}, api.ErrDeps},
		{"two that need each other", []api.Patch{{ID: 1, Deps: []uint32{2}}, {ID: 2, Deps: []uint32{1}}}, api.OK},
		{"as many paths as may be", []api.Patch{makes(1, seven[:3]), makes(2, seven[2:6])}, api.OK},
		{"one more path", []api.Patch{makes(1, seven[:3]), makes(2, seven[3:])}, api.ErrLarge},
		{"one more path, one of them dropped", []api.Patch{makes(1, seven[:3]), makes(2, seven[3:]), {ID: 3, Drops: seven[5:6]}}, api.OK},
		{"as many lines as may be", []api.Patch{long}, api.OK},
		{"as many lines as may be, in two paths", []api.Patch{makes(1, seven[:2], api.Hunk{Path: "a", Adds: adds(25)}, api.Hunk{Path: "b", Adds: adds(15)})}, api.OK},
		{"one more line, in two paths", []api.Patch{makes(1, seven[:2], api.Hunk{Path: "a", Adds: adds(25)}, api.Hunk{Path: "b", Adds: adds(16)})}, api.ErrLarge},
		{"one more line, of another patch", []api.Patch{long, makes(2, nil, api.Hunk{Path: "a", Adds: adds(1)})}, api.ErrLarge},
		{"one more line, which is dead", []api.Patch{long, makes(2, nil, api.Hunk{Path: "a", Adds: adds(1)}), makes(3, nil, api.Hunk{Path: "a", Kills: []api.LineID{id(1, 0), id(2, 0)}})}, api.ErrLarge},
		{"more lines, in a path that nobody makes", []api.Patch{long, makes(2, nil, api.Hunk{Path: "b", Adds: adds(40)})}, api.OK},
		{"more lines, in a path that is dropped", []api.Patch{long, makes(2, seven[1:2], api.Hunk{Path: "b", Adds: adds(40)}), {ID: 3, Drops: seven[1:2]}}, api.OK},
		{"far more lines than a relation may have", []api.Patch{long, makes(2, nil, api.Hunk{Path: "a", Adds: adds(40)}), makes(3, nil, api.Hunk{Path: "a", Adds: adds(40)}), makes(4, nil, api.Hunk{Path: "a", Adds: adds(40)}), makes(5, nil, api.Hunk{Path: "a", Adds: adds(40)}), makes(6, nil, api.Hunk{Path: "a", Adds: adds(40)})}, api.ErrLarge},
	} {
		mixed(c.l, func(l []api.Patch) {
			got, err := Of(l)
			if err != c.want || err != api.OK && len(got) > 0 {
				t.Errorf("P13.1: %s: %d files, %v, want %v", c.what, len(got), err, c.want)
			}
		})
	}
}

func TestClosed(t *testing.T) { // P13.1, P13.3
	needs := func(number uint32, deps ...uint32) api.Patch { return api.Patch{ID: number, Deps: deps} }
	for _, c := range []struct {
		what string
		l    []api.Patch
		want bool
	}{
		{"none", nil, true},
		{"one that needs nothing", []api.Patch{needs(1)}, true},
		{"one that needs another", []api.Patch{needs(2, 1)}, false},
		{"both", []api.Patch{needs(2, 1), needs(1)}, true},
		{"the last one's last need missing", []api.Patch{needs(2, 1), needs(1), needs(9, 1, 2, 8)}, false},
		{"the first one's first need missing", []api.Patch{needs(2, 1), needs(3, 2), needs(9, 2, 3)}, false},
		{"a need one above, one below", []api.Patch{needs(5), needs(7), needs(9, 6)}, false},
		{"two that need each other", []api.Patch{needs(1, 2), needs(2, 1)}, true},
		{"high numbers", []api.Patch{needs(math.MaxUint32, 1<<31), needs(1<<31, 1), needs(1)}, true},
		{"a high number missing", []api.Patch{needs(math.MaxUint32), needs(1, 1<<31)}, false},
		{"no patches: the number 0", []api.Patch{needs(0, 0)}, true},
		{"no patches: its own number", []api.Patch{needs(3, 3)}, true},
		{"no patches: the same twice", []api.Patch{needs(3), needs(3, 3, 3)}, true},
		{"no patches: needs that don't rise", []api.Patch{needs(1), needs(2), needs(3), needs(4, 3, 1, 2, 1)}, true},
		{"no patches: needs that don't rise, one missing", []api.Patch{needs(1), needs(2), needs(3), needs(4, 3, 1, 5, 1)}, false},
		{"what is named but not said to be needed", []api.Patch{{ID: 1, Hunks: []api.Hunk{{Path: "a", Kills: []api.LineID{id(77, 0)}}}}}, true},
		{"many", plain(5000), true},
		{"many, and one that needs one of them", append(plain(5000), needs(1, 1000, 5999)), true},
		{"many, and one that needs one more", append(plain(5000), needs(1, 1000, 6000)), false},
	} {
		mixed(c.l, func(l []api.Patch) {
			if Closed(l) != c.want {
				t.Errorf("P13.1: %s: closed is %v", c.what, !c.want)
			}
		})
	}
}

// anyPatch: one that may follow those of l: of up to three paths, with edges and kills of whatever lines there may be.
func anyPatch(r *rand.Rand, l []api.Patch, number uint32) api.Patch {
	paths := []string{"a", "b", "c"}
	p := api.Patch{ID: number}
	drops := r.Intn(12)
	for k, path := range paths {
		if r.Intn(3) > 0 && k != drops {
			p.Makes = append(p.Makes, path)
		}
		if k == drops {
			p.Drops = append(p.Drops, path)
		}
	}
	older := func() api.LineID { return id(l[r.Intn(len(l))].ID, r.Intn(5)) }
	from := 0
	for _, path := range paths {
		if r.Intn(4) == 0 {
			continue
		}
		h := api.Hunk{Path: path, Adds: adds(r.Intn(3))}
		any := func() api.LineID {
			if len(h.Adds) > 0 && (len(l) == 0 || r.Intn(2) == 0) {
				return id(number, from+r.Intn(len(h.Adds)))
			}
			return older()
		}
		for range r.Intn(6) {
			if len(h.Adds) == 0 && len(l) == 0 {
				continue
			}
			if e := edge(any(), any()); e.A != e.B {
				h.Edges = append(h.Edges, e)
			}
		}
		for range r.Intn(3) {
			if len(l) > 0 {
				h.Kills = append(h.Kills, older())
			}
		}
		slices.SortFunc(h.Edges, func(a, b api.Edge) int {
			return cmp.Or(cmp.Compare(a.A.Patch, b.A.Patch), cmp.Compare(a.A.N, b.A.N), cmp.Compare(a.B.Patch, b.B.Patch), cmp.Compare(a.B.N, b.B.N))
		})
		slices.SortFunc(h.Kills, func(a, b api.LineID) int { return cmp.Or(cmp.Compare(a.Patch, b.Patch), cmp.Compare(a.N, b.N)) })
		h.Edges, h.Kills = slices.Compact(h.Edges), slices.Compact(h.Kills)
		for k := range h.Adds {
			h.Adds[k] = strconv.Itoa(int(number)) + "." + strconv.Itoa(from+k) + "\n"
		}
		from += len(h.Adds)
		p.Hunks = append(p.Hunks, h)
	}
	return needing(p)
}

// filesByHand: what l makes, by the words of the chapter, number by number.
func filesByHand(l []api.Patch) []api.File {
	var files []api.File
	for _, path := range []string{"a", "b", "c"} {
		makes := slices.ContainsFunc(l, func(p api.Patch) bool { return slices.Contains(p.Makes, path) })
		drops := slices.ContainsFunc(l, func(p api.Patch) bool { return slices.Contains(p.Drops, path) })
		if makes && !drops {
			files = append(files, fileByHand(l, path))
		}
	}
	return files
}

func fileByHand(l []api.Patch, path string) api.File {
	texts, killed, ahead := map[api.LineID]string{}, map[api.LineID]bool{}, map[api.Edge]bool{}
	for _, p := range l {
		n := 0
		for _, h := range p.Hunks {
			for _, text := range h.Adds {
				if h.Path == path {
					texts[id(p.ID, n)] = text
				}
				n++
			}
			for _, line := range h.Kills {
				killed[line] = killed[line] || h.Path == path
			}
			for _, e := range h.Edges {
				ahead[e] = ahead[e] || h.Path == path
			}
		}
	}
	f := api.File{Path: path}
	for number := range uint32(100) {
		for n := range 20 {
			if text, ok := texts[id(number, n)]; ok {
				f.Lines = append(f.Lines, api.Line{ID: id(number, n), Text: text, Dead: killed[id(number, n)]})
			}
		}
	}
	for a, line := range f.Lines {
		reached := make([]bool, len(f.Lines))
		for work := []api.LineID{line.ID}; len(work) > 0; work = work[1:] {
			for b, other := range f.Lines {
				if ahead[edge(work[0], other.ID)] && !reached[b] {
					reached[b] = true
					work = append(work, other.ID)
				}
			}
		}
		for b, is := range reached {
			if is {
				f.Pairs = append(f.Pairs, api.Pair{A: a, B: b})
			}
		}
	}
	return f
}

func TestOfByHand(t *testing.T) { // P13.1, P13.2, P13.3
	r := rand.New(rand.NewSource(13))
	tracked, circles, killed := 0, 0, 0
	for range 600 {
		var l []api.Patch
		for k := range r.Intn(8) {
			l = append(l, anyPatch(r, l, uint32(k*7%11+1)))
		}
		want := filesByHand(l)
		if Count(want) > 40 {
			continue
		}
		mixed(l, func(m []api.Patch) {
			got, err := Of(m)
			if err != api.OK || !Same(got, want) {
				t.Fatalf("P13.3: %v: %v, %v, want %v", m, got, err, want)
			}
		})
		for _, f := range want {
			if !obj.Is(Obj(f)) {
				t.Fatalf("P13.2: %v is no object", Obj(f))
			}
			tracked++
			killed += len(f.Lines) - len(Alive(f))
			if slices.ContainsFunc(f.Pairs, func(p api.Pair) bool { return p.A == p.B }) {
				circles++
			}
		}
		holdsParts(t, l, want)
	}
	if tracked < 300 || circles < 30 || killed < 100 {
		t.Errorf("the patches tell too little: %d files, %d with circles, %d dead lines", tracked, circles, killed)
	}
}

// holdsParts: the first patches of l, which need nothing of the later ones, have their lines in the whole.
func holdsParts(t *testing.T, l []api.Patch, whole []api.File) {
	for n := range l {
		part, err := Of(l[:n])
		if err != api.OK {
			continue
		}
		for _, f := range part {
			all, found := Find(whole, f.Path)
			if !found {
				continue
			}
			leg, ok := Leg(f, all)
			if !ok || !arrow.Is(Obj(f), Obj(all), leg) {
				t.Fatalf("P13.2: %v in %v: %v", f, all, leg)
			}
			for k, place := range leg {
				if f.Lines[k].ID != all.Lines[place].ID || f.Lines[k].Dead && !all.Lines[place].Dead {
					t.Fatalf("P13.1: line %d of %v in %v", k, f, all)
				}
			}
		}
	}
}

// odd: files that no patches make.
func odd() []api.File {
	return []api.File{
		{Path: "", Lines: []api.Line{line(0, -1, ""), dead(0, math.MinInt, "a\nb\n"), line(0, -1, "again")}, Pairs: []api.Pair{{A: 9, B: -1}, {A: 2, B: 0}, {A: 2, B: 0}}},
		{Path: "Q", Pairs: []api.Pair{{A: 0, B: 0}}},
		{Path: "a", Lines: []api.Line{dead(3, 0, "3\n"), line(1, 99, "1\n")}},
		{Path: "a", Lines: []api.Line{line(4, 0, "4\n")}},
		{},
	}
}

func TestObj(t *testing.T) { // P13.2
	want := []api.Obj{
		{Labels: []string{"", "a\nb\n", "again"}, Pairs: []api.Pair{{A: 9, B: -1}, {A: 2, B: 0}, {A: 2, B: 0}}},
		{Pairs: []api.Pair{{A: 0, B: 0}}},
		{Labels: []string{"3\n", "1\n"}},
		{Labels: []string{"4\n"}},
		{},
	}
	for k, f := range odd() {
		if got := Obj(f); !obj.Same(got, want[k]) {
			t.Errorf("P13.2: file %d: %v, want %v", k, got, want[k])
		}
	}
}

func TestAlive(t *testing.T) { // P13.2
	want := [][]int{{0, 2}, nil, {1}, {0}, nil}
	for k, f := range odd() {
		if got := Alive(f); !slices.Equal(got, want[k]) {
			t.Errorf("P13.2: file %d: %v, want %v", k, got, want[k])
		}
	}
	all := api.File{Lines: []api.Line{dead(1, 0, "0"), dead(1, 1, "1")}}
	if got := Alive(all); len(got) > 0 {
		t.Errorf("P13.2: all dead, and alive are %v", got)
	}
}

func TestLeg(t *testing.T) { // P13.2
	of := func(l ...api.Line) api.File { return api.File{Path: "a", Lines: l} }
	three := of(line(1, 0, "0"), line(1, 1, "1"), line(2, 0, "2"))
	for _, c := range []struct {
		what string
		a, b api.File
		want []int
		ok   bool
	}{
		{"nothing to nothing", api.File{}, api.File{}, nil, true},
		{"nothing to some", of(), three, nil, true},
		{"some to nothing", three, of(), nil, false},
		{"a file to itself", three, three, []int{0, 1, 2}, true},
		{"one to all", of(line(1, 1, "1")), three, []int{1}, true},
		{"another path, other texts, dead ones", api.File{Path: "b", Lines: []api.Line{dead(2, 0, "other"), line(1, 0, "")}}, three, []int{2, 0}, true},
		{"the first one missing", of(line(9, 0, "0"), line(1, 1, "1")), three, nil, false},
		{"the last one missing", of(line(1, 0, "0"), line(1, 2, "1")), three, nil, false},
		{"another patch's line of that number", of(line(3, 0, "2")), three, nil, false},
		{"one that is there twice", of(line(1, 0, "0")), of(line(2, 0, "2"), dead(1, 0, "a"), line(1, 0, "0")), []int{1}, true},
		{"one twice", of(line(2, 0, "2"), line(2, 0, "2")), three, []int{2, 2}, true},
		{"numbers that are no line's", of(line(0, math.MinInt, ""), line(0, math.MaxInt, "")), of(line(0, math.MaxInt, ""), line(0, math.MinInt, "")), []int{1, 0}, true},
	} {
		if got, ok := Leg(c.a, c.b); ok != c.ok || !slices.Equal(got, c.want) {
			t.Errorf("P13.2: %s: %v, %v, want %v", c.what, got, ok, c.want)
		}
	}
}

func TestCount(t *testing.T) { // P13.2
	if Count(nil) != 0 || Count([]api.File{}) != 0 || Count(make([]api.File, 9)) != 0 || Count(odd()) != 6 || Count(odd()[2:]) != 3 {
		t.Errorf("P13.2: %d, %d, want 6, 3", Count(odd()), Count(odd()[2:]))
	}
}

func TestFind(t *testing.T) { // P13.2
	for _, c := range []struct {
		path string
		want int
	}{{"", 0}, {"Q", 1}, {"a", 2}, {"b", -1}, {"q", -1}, {"aa", -1}} {
		got, ok := Find(odd(), c.path)
		var want api.File
		if c.want >= 0 {
			want = odd()[c.want]
		}
		if ok != (c.want >= 0) || !sameFile(got, want) {
			t.Errorf("P13.2: path %q: %v, %v", c.path, got, ok)
		}
	}
	if f, ok := Find(nil, ""); ok || !sameFile(f, api.File{}) {
		t.Errorf("P13.2: of no files: %v, %v", f, ok)
	}
}

func TestSame(t *testing.T) { // P13.2
	base := func() []api.File {
		return []api.File{{Path: "a", Lines: []api.Line{line(1, 0, "0"), dead(1, 1, "1")}, Pairs: []api.Pair{{A: 0, B: 1}}}, {Path: "b"}}
	}
	if !Same(base(), base()) || !Same(odd(), odd()) {
		t.Error("P13.2: the same files aren't")
	}
	if !Same(nil, []api.File{}) || !Same([]api.File{{Path: "a"}}, []api.File{{Path: "a", Lines: []api.Line{}, Pairs: []api.Pair{}}}) {
		t.Error("P13.2: no lists aren't as good as empty ones")
	}
	for _, c := range []struct {
		what string
		does func(l []api.File) []api.File
	}{
		{"path", func(l []api.File) []api.File { l[1].Path = "c"; return l }},
		{"patch of a line", func(l []api.File) []api.File { l[0].Lines[0].ID.Patch = 9; return l }},
		{"number of a line", func(l []api.File) []api.File { l[0].Lines[1].ID.N = 9; return l }},
		{"text", func(l []api.File) []api.File { l[0].Lines[1].Text = "9"; return l }},
		{"line that is dead", func(l []api.File) []api.File { l[0].Lines[0].Dead = true; return l }},
		{"line more", func(l []api.File) []api.File { l[1].Lines = l[0].Lines[:1]; return l }},
		{"line less", func(l []api.File) []api.File { l[0].Lines = l[0].Lines[:1]; return l }},
		{"pair", func(l []api.File) []api.File { l[0].Pairs[0] = api.Pair{A: 1}; return l }},
		{"pair more", func(l []api.File) []api.File { l[1].Pairs = l[0].Pairs; return l }},
		{"pair less", func(l []api.File) []api.File { l[0].Pairs = nil; return l }},
		{"order", func(l []api.File) []api.File { slices.Reverse(l); return l }},
		{"file more", func(l []api.File) []api.File { return append(l, api.File{}) }},
		{"file less", func(l []api.File) []api.File { return l[:1] }},
		{"count: none", func(l []api.File) []api.File { return nil }},
	} {
		if other := c.does(base()); Same(base(), other) || Same(other, base()) {
			t.Errorf("P13.2: the same with another %s", c.what)
		}
	}
}

func TestExample(t *testing.T) { // P13.1, P13.2
	l := []api.Patch{makes(1, []string{"notes"}, api.Hunk{Path: "notes", Adds: []string{"a\n", "b\n"}, Edges: []api.Edge{edge(id(1, 0), id(1, 1))}})}
	files, err := Of(l)
	f, ok := Find(files, "notes")
	if err != api.OK || !ok || !obj.Same(Obj(f), api.Obj{Labels: []string{"a\n", "b\n"}, Pairs: []api.Pair{{A: 0, B: 1}}}) {
		t.Errorf("P13.1: %v, %v", files, err)
	}
}

// roomy: l, with room behind it that holds what is no use.
func roomy[T any](l []T, behind T) []T {
	room := append(slices.Clone(l), behind, behind)
	return room[:len(l)]
}

// unchanged: whether the room behind a list of the length that l has still holds what roomy laid there.
func unchanged[T comparable](l []T, behind T) bool {
	room := l[:len(l)+2]
	return room[len(l)] == behind && room[len(l)+1] == behind
}

func spoilList[T any](l []T, by T) {
	l = l[:cap(l)]
	for k := range l {
		l[k] = by
	}
}

func spoilFiles(l []api.File) {
	for _, f := range l {
		spoilList(f.Lines, dead(77, 77, "spoilt"))
		spoilList(f.Pairs, api.Pair{A: 77, B: 77})
	}
	spoilList(l, api.File{Path: "spoilt"})
}

// tale: patches of which each list has something.
func tale() []api.Patch {
	return []api.Patch{
		makes(5, []string{"b"}, api.Hunk{Path: "a", Edges: []api.Edge{edge(id(2, 1), id(3, 0))}, Kills: []api.LineID{id(2, 0)}}, api.Hunk{Path: "b", Adds: []string{"5\n"}}),
		makes(2, []string{"a", "c"}, api.Hunk{Path: "a", Adds: []string{"20\n", "21\n"}, Edges: []api.Edge{edge(id(2, 0), id(2, 1))}}),
		needing(api.Patch{ID: 3, Drops: []string{"c"}, Hunks: []api.Hunk{{Path: "a", Adds: []string{"30\n"}}}}),
	}
}

func TestNothingIsChanged(t *testing.T) { // P13.1, P13.2
	l := tale()
	for k, p := range l {
		l[k].Makes, l[k].Drops, l[k].Deps = roomy(p.Makes, "x"), roomy(p.Drops, "x"), roomy(p.Deps, 77)
		for n, h := range p.Hunks {
			p.Hunks[n].Adds, p.Hunks[n].Edges, p.Hunks[n].Kills = roomy(h.Adds, "x"), roomy(h.Edges, edge(id(7, 7), id(7, 8))), roomy(h.Kills, id(7, 7))
		}
	}
	l = append(l, api.Patch{ID: 77})[:3]
	want, err := Of(l)
	if err != api.OK || !Closed(l) || len(want) != 2 {
		t.Fatalf("P13.1: %v, %v", want, err)
	}
	for k, p := range tale() {
		if !patch.Same(p, l[k]) || !unchanged(l[k].Makes, "x") || !unchanged(l[k].Drops, "x") || !unchanged(l[k].Deps, 77) {
			t.Errorf("P13.1: patch %d is changed", p.ID)
		}
		for _, h := range l[k].Hunks {
			if !unchanged(h.Adds, "x") || !unchanged(h.Edges, edge(id(7, 7), id(7, 8))) || !unchanged(h.Kills, id(7, 7)) {
				t.Errorf("P13.1: a hunk of patch %d is changed", p.ID)
			}
		}
	}
	if behind := l[:4][3]; behind.ID != 77 {
		t.Errorf("P13.1: behind the patches is %v", behind)
	}
	for k := range l {
		spoilList(l[k].Makes, "spoilt")
		for _, h := range l[k].Hunks {
			spoilList(h.Adds, "spoilt")
			spoilList(h.Edges, edge(id(77, 77), id(77, 77)))
		}
	}
	if again, _ := Of(tale()); !Same(again, want) {
		t.Errorf("P13.1: an answer is touched by what was handed in: %v", want)
	}
}

func TestAnswersAreNewMemory(t *testing.T) { // P13.1, P13.2
	l := tale()
	first, _ := Of(l)
	want, _ := Of(l)
	spoilFiles(first)
	if again, _ := Of(l); !Same(again, want) || !Same(again, filesByHand(l)) {
		t.Errorf("P13.1: %v, want %v", again, want)
	}
	f, _ := Find(want, "a")
	o, alive, leg := Obj(f), Alive(f), []int(nil)
	leg, _ = Leg(f, f)
	spoilList(o.Labels, "spoilt")
	spoilList(o.Pairs, api.Pair{A: 77, B: 77})
	spoilList(alive, 77)
	spoilList(leg, 77)
	if same, _ := Find(want, "a"); !sameFile(f, same) {
		t.Errorf("P13.2: a file is touched by what was told of it: %v", f)
	}
	spoilList(f.Lines, dead(77, 77, "spoilt"))
	spoilList(f.Pairs, api.Pair{A: 77, B: 77})
	if !Same(want, filesByHand(l)) {
		t.Errorf("P13.2: the files are touched by one that was found: %v", want)
	}
}

// TestFilesShareNothing has one file spoilt, its spare room too: the others stay.
func TestFilesShareNothing(t *testing.T) { // P13.1
	for k := range 2 {
		files, _ := Of(tale())
		want := filesByHand(tale())
		spoilList(files[k].Lines, dead(77, 77, "spoilt"))
		if !slices.Equal(files[k].Pairs, want[k].Pairs) || !sameFile(files[1-k], want[1-k]) {
			t.Errorf("P13.1: file %d touches another list: %v", k, files)
		}
	}
}

func TestHugeOnes(t *testing.T) { // P13.1, P13.2
	many := plain(200000)
	if _, err := Of(many); err != api.ErrLarge || !Closed(many) {
		t.Errorf("P13.1: many patches: %v", err)
	}
	if got, err := Of(append(many, many...)); err != api.ErrForm || len(got) > 0 {
		t.Errorf("P13.1: many patches twice: %v", err)
	}
	needs := api.Patch{ID: 1}
	for _, p := range many {
		needs.Deps = append(needs.Deps, p.ID)
	}
	if !Closed(append(many, needs)) || Closed(append(many[1:], needs)) {
		t.Error("P13.1: one that needs many")
	}
	var f api.File
	for k := range 200000 {
		f.Lines = append(f.Lines, line(1, k, "x"))
	}
	back := api.File{Lines: slices.Clone(f.Lines)}
	slices.Reverse(back.Lines)
	if leg, ok := Leg(f, back); !ok || len(leg) != 200000 || leg[0] != 199999 || leg[199999] != 0 {
		t.Error("P13.2: a leg of many lines")
	}
	if len(Alive(f)) != 200000 || len(Obj(f).Labels) != 200000 || Count([]api.File{f, back}) != 400000 || Same([]api.File{f}, []api.File{back}) {
		t.Error("P13.2: many lines")
	}
}

func TestIteratorsMayBeLeft(t *testing.T) { // P13.3
	l := tale()
	yielded := rising(l)
	for range 2 {
		for p := range yielded {
			if p.ID != 2 {
				t.Errorf("P13.3: the first patch is %d", p.ID)
			}
			break
		}
	}
	of := hunks(l, "a")
	for first, h := range of {
		inner := 0
		for range of {
			inner++
		}
		if first != id(2, 0) || len(h.Adds) != 2 || inner != 3 {
			t.Errorf("P13.3: the first hunk is %v of %v, of %d", h, first, inner)
		}
		break
	}
	if l[0].ID != 5 {
		t.Error("P13.3: the patches are changed")
	}
}
