// Package bits: rows of bits: see doc/01-bits.md.
package bits

import (
	"iter"
	"math/bits"
	"slices"
)

const (
	maxLen   = 1000
	wordBits = 64
)

// Row: a set of the places from 0 to Len() - 1.
// The last word's bits beyond n stay off, so that whole words can be counted and compared.
type Row struct {
	n     int
	words []uint64
}

// New: a row of n bits (held from 0 to 1000), all off.
func New(n int) *Row {
	n = min(max(n, 0), maxLen)
	return &Row{n: n, words: make([]uint64, (n+wordBits-1)/wordBits)}
}

// Len: how many places there are.
func (r *Row) Len() int { return r.n }

// Has: whether place i is on; false of no place.
func (r *Row) Has(i int) bool {
	return r.isPlace(i) && r.words[i/wordBits]&bit(i) != 0
}

// Put: place i is on, or off; of no place nothing.
func (r *Row) Put(i int, on bool) {
	if !r.isPlace(i) {
		return
	}
	if on {
		r.words[i/wordBits] |= bit(i)
	} else {
		r.words[i/wordBits] &^= bit(i)
	}
}

// Or: on is what is on in either, of the row's own places; whether anything became on.
func (r *Row) Or(o *Row) bool {
	grew := false
	for k, old := range r.words {
		r.words[k] = old | o.word(k)&r.places(k)
		grew = grew || r.words[k] != old
	}
	return grew
}

// And: on is what is on in both.
func (r *Row) And(o *Row) {
	for k := range r.words {
		r.words[k] &= o.word(k)
	}
}

// Count: how many places are on.
func (r *Row) Count() int {
	count := 0
	for _, word := range r.words {
		count += bits.OnesCount64(word)
	}
	return count
}

// All: the places that are on, rising.
func (r *Row) All() []int {
	all := make([]int, 0, r.Count())
	for i := range r.each() {
		all = append(all, i)
	}
	return all
}

// Same: whether both have the same Len and the same bits; a nil row counts as one of length 0.
func (r *Row) Same(o *Row) bool {
	if o == nil {
		return r.n == 0
	}
	return r.n == o.n && slices.Equal(r.words, o.words)
}

// Copy: another row of the same bits.
func (r *Row) Copy() *Row {
	return &Row{n: r.n, words: slices.Clone(r.words)}
}

// each yields the places that are on, rising.
func (r *Row) each() iter.Seq[int] {
	return func(yield func(int) bool) {
		for k, word := range r.words {
			for word != 0 {
				if !yield(k*wordBits + bits.TrailingZeros64(word)) {
					return
				}
				word &= word - 1
			}
		}
	}
}

func (r *Row) isPlace(i int) bool { return i >= 0 && i < r.n }

// word may be asked of a nil row and beyond the last word, so that rows of unlike lengths need no cases.
func (r *Row) word(k int) uint64 {
	if r == nil || k >= len(r.words) {
		return 0
	}
	return r.words[k]
}

// places: the bits of word k that are places of the row.
func (r *Row) places(k int) uint64 {
	left := r.n - k*wordBits
	if left >= wordBits {
		return ^uint64(0)
	}
	return uint64(1)<<left - 1
}

func bit(i int) uint64 { return uint64(1) << (i % wordBits) }
