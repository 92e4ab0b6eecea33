package ring_test

import (
	"fmt"
	"math/rand"
	"testing"

	"sibyl/api"
	"sibyl/ring"
)

func is(t *testing.T, what string, got, want any) {
	t.Helper()
	if g, w := fmt.Sprint(got), fmt.Sprint(want); g != w {
		t.Errorf("%s: %s, want %s", what, g, w)
	}
}

func all[T any](r *ring.Ring[T]) (l []string) {
	for at, x := range r.All() {
		l = append(l, fmt.Sprint(at, " ", x))
	}
	return l
}

func pair[T any](x T, ok bool) []any { return []any{x, ok} }

// P10.1
func TestMade(t *testing.T) {
	for size, want := range map[int]bool{-1: false, 0: false, 1: true, 2: true, api.MaxSlots: true, api.MaxSlots + 1: false, 1<<63 - 1: false, -1 << 63: false} {
		r := ring.New[int](size)
		is(t, fmt.Sprint("New of ", size), r != nil, want)
		is(t, fmt.Sprint("Low, Len of ", size), []int{r.Low(), r.Len(), len(all(r))}, []int{0, 0, 0})
	}
	r := ring.New[int](api.MaxSlots)
	is(t, "the last place, and one behind", []bool{r.Put(api.MaxSlots-1, 1), r.Put(api.MaxSlots, 1)}, []bool{true, false})
}

// P10.2
func TestPut(t *testing.T) {
	r := ring.New[string](3)
	is(t, "Get of nothing", pair(r.Get(0)), pair("", false))
	is(t, "Put", []bool{r.Put(1, "b"), r.Put(1, "c"), r.Put(3, "d"), r.Put(-1, "e"), r.Put(2, "")}, []bool{true, false, false, false, true})
	is(t, "far off", []bool{r.Put(1<<63-1, "x"), r.Put(-1<<63, "x")}, []bool{false, false})
	is(t, "Get", []any{pair(r.Get(0)), pair(r.Get(1)), pair(r.Get(2)), pair(r.Get(3)), pair(r.Get(-2)), pair(r.Get(4))},
		[]any{pair("", false), pair("b", true), pair("", true), pair("", false), pair("", false), pair("", false)})
	is(t, "far off", []any{pair(r.Get(1<<63 - 1)), pair(r.Get(-1 << 63))}, []any{pair("", false), pair("", false)})
}

// P10.3
func TestDropped(t *testing.T) {
	r := ring.New[string](2)
	is(t, "Drop of nothing", pair(r.Drop()), pair("", false))
	r.Put(1, "b")
	is(t, "Drop, where nothing is at Low", pair(r.Drop()), pair("", false))
	is(t, "Low", r.Low(), 0)
	r.Put(0, "a")
	is(t, "Drop", pair(r.Drop()), pair("a", true))
	is(t, "Low", r.Low(), 1)
	is(t, "what was dropped", []any{pair(r.Get(0)), r.Put(0, "x")}, []any{pair("", false), false})
	is(t, "a place more", []any{pair(r.Get(2)), r.Put(2, "c"), r.Put(3, "d")}, []any{pair("", false), true, false})
	is(t, "Drop of all", []any{pair(r.Drop()), pair(r.Drop()), pair(r.Drop()), r.Low()}, []any{pair("b", true), pair("c", true), pair("", false), 3})
}

// P10.1 to P10.3: the document's example
func TestExample(t *testing.T) {
	r := ring.New[string](2)
	is(t, "told", []any{r.Put(1, "b"), r.Put(2, "c"), pair(r.Drop()), r.Put(0, "a"), pair(r.Drop()), r.Put(2, "c")},
		[]any{true, false, pair("", false), true, pair("a", true), true})
}

// P10.4
func TestAsked(t *testing.T) {
	r := ring.New[int](4)
	r.Put(3, 30)
	r.Put(0, 0)
	r.Put(1, 10)
	is(t, "All", all(r), []string{"0 0", "1 10", "3 30"})
	is(t, "Len", r.Len(), 3)
	r.Put(1, 11)
	is(t, "Len behind a Put that tells false", r.Len(), 3)
	r.Drop()
	r.Put(4, 40)
	is(t, "All behind a Drop", all(r), []string{"1 10", "3 30", "4 40"})
	is(t, "Low, Len", []int{r.Low(), r.Len()}, []int{1, 3})
	n := 0
	for at := range r.All() {
		if n += at; at == 3 {
			break
		}
	}
	is(t, "left off", n, 4)
}

// P10.5
func TestThereTillDropped(t *testing.T) {
	x := rand.New(rand.NewSource(10))
	for range 50 {
		size := 1 + x.Intn(5)
		r := ring.New[int](size)
		there := map[int]int{}
		low := 0
		for step := range 300 {
			if x.Intn(3) == 0 {
				want, ok := there[low]
				is(t, "Drop", pair(r.Drop()), pair(want, ok))
				if delete(there, low); ok {
					low++
				}
			} else {
				at := low + x.Intn(size+2) - 1
				_, full := there[at]
				ok := !full && at >= low && at < low+size
				if ok {
					there[at] = step
				}
				is(t, "Put", r.Put(at, step), ok)
			}
			is(t, "Low, Len", []int{r.Low(), r.Len()}, []int{low, len(there)})
			var want []string
			for at := low; at < low+size; at++ {
				thing, ok := there[at]
				is(t, "Get", pair(r.Get(at)), pair(thing, ok))
				if ok {
					want = append(want, fmt.Sprint(at, " ", thing))
				}
			}
			is(t, "All", all(r), want)
		}
	}
}

func TestNil(t *testing.T) {
	var r *ring.Ring[int]
	is(t, "a nil ring", []any{r.Put(0, 1), pair(r.Get(0)), pair(r.Drop()), r.Low(), r.Len(), len(all(r))}, []any{false, pair(0, false), pair(0, false), 0, 0, 0})
}
