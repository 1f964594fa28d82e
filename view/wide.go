package view

import (
	"container/heap"
	"iter"
	"slices"

	"cento/api"
)

// A relation has room for some lines only, but a file may be handed in with any number of them:
// what layers 2 and 3 would tell of a wider one is told here, in as many steps as it has lines and pairs.

// class: of lines that are the same or each ahead of the other one.
type class struct {
	alive      []int // the places of those that aren't dead, rising
	circle     bool  // whether they are ahead of themselves
	next, prev []int // the other classes that its pairs lead to, and come from, once for each pair
}

// markedWide: marked of a file of any number of lines.
func markedWide(f api.File) iter.Seq2[int, byte] {
	return func(yield func(int, byte) bool) {
		all := classes(f)
		marks := marksOf(all)
		for k := range sweep(all) {
			for _, place := range all[k].alive {
				if !yield(place, marks[k]) {
					return
				}
			}
		}
	}
}

// marksOf: of each class the mark of its lines.
func marksOf(all []class) []byte {
	total := countAlive(all)
	behind, ahead := behindEach(all), behindEach(turned(all))
	marks := make([]byte, len(all))
	for k, c := range all {
		switch {
		case c.circle:
			marks[k] = api.MarkCircle
		case ahead[k]+len(c.alive)+behind[k] == total:
			marks[k] = api.MarkPlain
		default:
			marks[k] = api.MarkApart
		}
	}
	return marks
}

// behindEach: of each class how many lines alive are sure to be behind it: if it was the only one that could come next,
// all that were left then, else none. A class that is ordered with each other one is always the only one then,
// and what came earlier is ahead of it: so of that class none is missed, from either end.
func behindEach(all []class) []int {
	left := countAlive(all)
	behind := make([]int, len(all))
	for k, alone := range sweep(all) {
		left -= len(all[k].alive)
		if alone {
			behind[k] = left
		}
	}
	return behind
}

func countAlive(all []class) int {
	n := 0
	for _, c := range all {
		n += len(c.alive)
	}
	return n
}

// turned: the same classes, with those behind ahead.
func turned(all []class) []class {
	t := slices.Clone(all)
	for k := range t {
		t[k].next, t[k].prev = t[k].prev, t[k].next
	}
	return t
}

// sweep yields the classes, each behind all those ahead of it, of several that may come next the one with the least line;
// and whether it was the only one.
func sweep(all []class) iter.Seq2[int, bool] {
	return func(yield func(int, bool) bool) {
		waits := make([]int, len(all))
		free := &queue{all: all}
		for k, c := range all {
			waits[k] = len(c.prev)
			if waits[k] == 0 {
				heap.Push(free, k)
			}
		}
		for free.Len() > 0 {
			k := heap.Pop(free).(int)
			if !yield(k, free.Len() == 0) {
				return
			}
			for _, to := range all[k].next {
				waits[to]--
				if waits[to] == 0 {
					heap.Push(free, to)
				}
			}
		}
	}
}

// queue: the classes that may come next, for package heap.
type queue struct {
	all []class
	l   []int
}

func (q *queue) Len() int           { return len(q.l) }
func (q *queue) Less(i, k int) bool { return q.least(i) < q.least(k) }
func (q *queue) Swap(i, k int)      { q.l[i], q.l[k] = q.l[k], q.l[i] }
func (q *queue) Push(k any)         { q.l = append(q.l, k.(int)) }

func (q *queue) Pop() any {
	last := len(q.l) - 1
	k := q.l[last]
	q.l = q.l[:last]
	return k
}

// least: the least line alive. A class without one is less than all others: nobody sees it, so nobody is to wait for it.
func (q *queue) least(i int) int {
	alive := q.all[q.l[i]].alive
	if len(alive) == 0 {
		return -1
	}
	return alive[0]
}

func classes(f api.File) []class {
	next, prev := steps(f)
	of, n := classOfEach(next, prev)
	all := make([]class, n)
	for a, line := range f.Lines {
		k := of[a]
		if !line.Dead {
			all[k].alive = append(all[k].alive, a)
		}
		for _, b := range next[a] {
			to := of[b]
			if to == k {
				all[k].circle = true
				continue
			}
			all[k].next = append(all[k].next, to)
			all[to].prev = append(all[to].prev, k)
		}
	}
	return all
}

// steps: of each line those that a pair has behind it, and those that one has ahead of it.
func steps(f api.File) (next, prev [][]int) {
	n := len(f.Lines)
	next, prev = make([][]int, n), make([][]int, n)
	for _, p := range f.Pairs {
		if p.A >= 0 && p.A < n && p.B >= 0 && p.B < n {
			next[p.A] = append(next[p.A], p.B)
			prev[p.B] = append(prev[p.B], p.A)
		}
	}
	return next, prev
}

// classOfEach: of each line the number of its class, and how many classes there are.
// Of lines that are left, the last one to be done going forward is in no class behind another's:
// so going back from it one meets its own class alone.
func classOfEach(next, prev [][]int) ([]int, int) {
	var starts []int
	for a := range next {
		starts = append(starts, a)
	}
	var done []int
	for _, a := range walks(next, starts) {
		done = append(done, a)
	}
	slices.Reverse(done)
	of := make([]int, len(next))
	n, last := 0, -1
	for start, a := range walks(prev, done) {
		if start != last {
			n, last = n+1, start
		}
		of[a] = n - 1
	}
	return of, n
}

// walks goes from each start that it hasn't met to all that it hasn't met, and yields these, each once it is done
// with all that it leads to, with their start.
func walks(next [][]int, starts []int) iter.Seq2[int, int] {
	return func(yield func(int, int) bool) {
		met := make([]bool, len(next))
		tried := make([]int, len(next))
		for _, start := range starts {
			if met[start] {
				continue
			}
			met[start] = true
			way := []int{start}
			for len(way) > 0 {
				at := way[len(way)-1]
				if tried[at] == len(next[at]) {
					way = way[:len(way)-1]
					if !yield(start, at) {
						return
					}
					continue
				}
				to := next[at][tried[at]]
				tried[at]++
				if !met[to] {
					met[to] = true
					way = append(way, to)
				}
			}
		}
	}
}
