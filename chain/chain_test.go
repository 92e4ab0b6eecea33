package chain_test

import (
	"fmt"
	"math/rand"
	"slices"
	"testing"

	"sibyl/api"
	"sibyl/chain"
)

func is(t *testing.T, what string, got, want any) {
	t.Helper()
	if g, w := fmt.Sprint(got), fmt.Sprint(want); g != w {
		t.Errorf("%s: %s, want %s", what, g, w)
	}
}

func ref(n int) api.Ref { return api.Ref{Slot: n, Gen: 100 + n} }

func refs(l ...int) []api.Ref {
	out := []api.Ref{}
	for _, n := range l {
		out = append(out, ref(n))
	}
	return out
}

func push(c *chain.Chain, prev, cell, num int) []any {
	id, ok := c.Push(prev, cell, num, ref(num))
	return []any{id, ok}
}

func drop(c *chain.Chain, id int) []any {
	l, ok := c.Drop(id)
	if len(l) == 0 {
		l = nil
	}
	return []any{l, ok}
}

func yes(id int) []any                      { return []any{id, true} }
func gone(l ...int) []any                   { return []any{refs(l...), true} }
func back(c *chain.Chain, id int) []api.Ref { return slices.Collect(c.Back(id)) }

var no = []any{-1, false}

// P13.1
func TestPut(t *testing.T) {
	c := chain.New()
	is(t, "a new one", []any{c.Live(), c.Count(0), len(c.Sets(0)), len(back(c, 0))}, []any{0, 0, 0, 0})
	is(t, "none ahead", []any{push(c, 0, 0, 1), push(c, -1, 1, 1), push(c, -1, -1, 1), push(c, -2, 0, 1), push(c, 0, 1, 1)}, []any{no, no, no, no, no})
	is(t, "Push", []any{push(c, -1, 0, 5), push(c, 0, 0, 7), push(c, 0, 1, -9), push(c, -1, 0, 5)}, []any{yes(0), yes(1), yes(2), yes(3)})
	is(t, "Count", []int{c.Count(0), c.Count(1), c.Count(2), c.Count(3), c.Count(4), c.Count(-1)}, []int{3, 1, 1, 1, 0, 0})
	is(t, "of other cells", []any{push(c, 0, 2, 1), push(c, 2, 0, 1), push(c, 2, 3, 1), push(c, 4, 0, 1), push(c, 0, -1, 1)}, []any{no, no, no, no, no})
	is(t, "Live", c.Live(), 4)
	prev := 2
	for cell := 2; cell < 6; cell++ {
		is(t, fmt.Sprint("at cell ", cell), push(c, prev, cell, cell), yes(cell+2))
		prev = cell + 2
	}
	is(t, "at cell 6", []any{push(c, prev, 6, 1), push(c, prev, 5, 1)}, []any{no, yes(8)})
	c.Drop(3)
	is(t, "behind one that is gone", []any{push(c, 3, 0, 1), push(c, -1, 0, 1)}, []any{no, yes(9)})
}

// P13.2
func TestCounted(t *testing.T) {
	c := chain.New()
	push(c, -1, 0, 1)
	push(c, 0, 0, 2)
	push(c, 1, 1, 3)
	push(c, 1, 1, 4)
	is(t, "Keep", []any{c.Keep(2), c.Keep(2), c.Keep(9), c.Keep(-1), c.Count(2)}, []any{true, true, false, false, 3})
	is(t, "Drop, less often than it is kept", []any{drop(c, 2), drop(c, 2), c.Count(2), c.Live()}, []any{gone2(), gone2(), 1, 4})
	is(t, "Drop of what is held by others", []any{drop(c, 0), drop(c, 1), c.Count(0), c.Count(1)}, []any{gone2(), gone2(), 1, 2})
	is(t, "Drop", []any{drop(c, 2), c.Live(), c.Count(1), c.Count(2)}, []any{gone(3), 3, 1, 0})
	is(t, "Drop of what is gone", []any{drop(c, 2), drop(c, 7), drop(c, -1), c.Keep(2)}, []any{lost, lost, lost, false})
	is(t, "Drop of the last one", []any{drop(c, 3), c.Live(), c.Count(0)}, []any{gone(4, 2, 1), 0, 0})
	is(t, "Push, behind all", push(c, -1, 0, 1), yes(4))
}

var lost = []any{[]api.Ref(nil), false}

func gone2() []any { return []any{[]api.Ref(nil), true} }

// P13.3
func TestTold(t *testing.T) {
	c := chain.New()
	push(c, -1, 0, 5)
	push(c, 0, 0, 9)
	push(c, 1, 1, 7)
	push(c, 2, 2, -1)
	push(c, 3, 2, 8)
	push(c, 1, 1, 3)
	is(t, "Sets", []any{c.Sets(0), c.Sets(1), c.Sets(2), c.Sets(4), c.Sets(5)},
		[]any{[][]int{{5}}, [][]int{{5, 9}}, [][]int{{5, 9}, {7}}, [][]int{{5, 9}, {7}, {-1, 8}}, [][]int{{5, 9}, {3}}})
	is(t, "Back", []any{back(c, 0), back(c, 4), back(c, 5)}, []any{refs(5), refs(8, -1, 7, 9, 5), refs(3, 9, 5)})
	is(t, "of none", []int{len(c.Sets(6)), len(back(c, 6)), len(c.Sets(-1)), len(back(c, -1))}, []int{0, 0, 0, 0})
	n := 0
	for range c.Back(4) {
		if n++; n == 2 {
			break
		}
	}
	is(t, "left off", n, 2)
	sets := c.Sets(4)
	sets[0][0], sets[2][1] = 77, 77
	is(t, "Sets again", c.Sets(4), [][]int{{5, 9}, {7}, {-1, 8}})
	c.Drop(5)
	is(t, "of what is gone", []int{len(c.Sets(5)), len(back(c, 5))}, []int{0, 0})
}

// P13: the document's examples
func TestExamples(t *testing.T) {
	c := chain.New()
	is(t, "told", []any{push(c, -1, 0, 5), push(c, 0, 1, 7), c.Sets(1)}, []any{yes(0), yes(1), [][]int{{5}, {7}}})
	is(t, "then", []any{drop(c, 0), drop(c, 1)}, []any{gone2(), gone(7, 5)})
}

// P13.4
func TestCounts(t *testing.T) {
	r := rand.New(rand.NewSource(13))
	c := chain.New()
	prevs := map[int]int{}
	cells := map[int]int{}
	kept := map[int]int{}
	next := 0
	for i := range 4000 {
		id := r.Intn(next+2) - 1
		switch r.Intn(3) {
		case 0:
			cell := 0
			if id >= 0 {
				cell = cells[id] + r.Intn(3) - 1
			}
			_, there := kept[id]
			ok := id == -1 || there && (cell == cells[id] || cell == cells[id]+1) && cell < 6
			if ok {
				prevs[next], cells[next], kept[next] = id, cell, 1
				is(t, "Push", push(c, id, cell, i), yes(next))
				next++
			} else {
				is(t, "Push", push(c, id, cell, i), no)
			}
		case 1:
			_, ok := kept[id]
			if is(t, "Keep", c.Keep(id), ok); ok {
				kept[id]++
			}
		case 2:
			if kept[id] > 0 {
				c.Drop(id)
				kept[id]--
			}
		}
		behind := map[int]int{}
		for at := next - 1; at >= 0; at-- {
			if n, there := kept[at]; there && n+behind[at] == 0 {
				delete(kept, at)
			} else if there {
				behind[prevs[at]]++
			}
		}
		for at := range next {
			is(t, fmt.Sprint("Count of ", at), c.Count(at), kept[at]+map[bool]int{true: behind[at]}[has(kept, at)])
		}
		is(t, "Live", c.Live(), len(kept))
		if next > 60 {
			c, next = chain.New(), 0
			clear(kept)
		}
	}
}

func has(m map[int]int, at int) bool {
	_, ok := m[at]
	return ok
}

func TestNil(t *testing.T) {
	var c *chain.Chain
	is(t, "a nil chain", []any{push(c, -1, 0, 1), c.Keep(0), drop(c, 0), len(c.Sets(0)), len(back(c, 0)), c.Count(0), c.Live()},
		[]any{no, false, lost, 0, 0, 0, 0})
}
