package store_test

import (
	"fmt"
	"math/rand"
	"testing"

	"sibyl/api"
	"sibyl/store"
)

func is(t *testing.T, what string, got, want any) {
	t.Helper()
	if g, w := fmt.Sprint(got), fmt.Sprint(want); g != w {
		t.Errorf("%s: %s, want %s", what, g, w)
	}
}

func pair(x any, ok bool) []any { return []any{x, ok} }

func take(s *store.Store, e api.Event) []any {
	r, ok := s.Take(e)
	return pair(r, ok)
}

func add(s *store.Store, r api.Ref, n int) []any {
	c, ok := s.Add(r, n)
	return pair(c, ok)
}

func get(s *store.Store, r api.Ref) []any {
	e, ok := s.Get(r)
	return pair(e, ok)
}

func event(n int) api.Event { return api.Event{Type: n, Key: -n, Nums: [4]int64{int64(n)}} }

func ref(slot, gen int) api.Ref { return api.Ref{Slot: slot, Gen: gen} }

var none = api.Ref{}

// P11.1
func TestMade(t *testing.T) {
	for slots, want := range map[int]bool{-1: false, 0: false, 1: true, api.MaxSlots: true, api.MaxSlots + 1: false, 1<<63 - 1: false} {
		s := store.New(slots)
		is(t, fmt.Sprint("New of ", slots), s != nil, want)
		is(t, fmt.Sprint("Used, Live of ", slots), []int{s.Used(), s.Live()}, []int{0, 0})
		n := 0
		for ; ; n++ {
			if r, ok := s.Take(event(n)); !ok || r != ref(n, 0) {
				break
			}
		}
		is(t, fmt.Sprint("how many are taken of ", slots), n, map[bool]int{true: slots}[want])
	}
}

// P11.1
func TestTaken(t *testing.T) {
	s := store.New(3)
	is(t, "Take", []any{take(s, event(1)), take(s, event(2)), take(s, event(3)), take(s, event(4))},
		[]any{pair(ref(0, 0), true), pair(ref(1, 0), true), pair(ref(2, 0), true), pair(none, false)})
	is(t, "counts", []int{s.Count(ref(0, 0)), s.Count(ref(1, 0)), s.Count(ref(2, 0))}, []int{1, 1, 1})
	s.Add(ref(2, 0), -1)
	s.Add(ref(1, 0), -1)
	is(t, "Take, where two are dead", take(s, event(5)), pair(none, false))
	s.Free(ref(2, 0))
	s.Free(ref(1, 0))
	is(t, "the least free one", []any{take(s, event(5)), take(s, event(6)), take(s, event(7))}, []any{pair(ref(1, 1), true), pair(ref(2, 1), true), pair(none, false)})
	is(t, "what was taken anew", []any{get(s, ref(1, 1)), get(s, ref(1, 0)), s.Count(ref(1, 1))}, []any{pair(event(5), true), pair(api.Event{}, false), 1})
}

// P11.2
func TestCounted(t *testing.T) {
	s := store.New(2)
	r, _ := s.Take(event(7))
	is(t, "Add", []any{add(s, r, 4), add(s, r, 0), add(s, r, -2), add(s, r, -4)}, []any{pair(5, true), pair(5, true), pair(3, true), pair(0, false)})
	is(t, "to the most", []any{add(s, r, 1<<40-2), add(s, r, 1<<40-3), add(s, r, 1)}, []any{pair(0, false), pair(1<<40, true), pair(0, false)})
	is(t, "far off", []any{add(s, r, 1<<63-1), add(s, r, -1<<63), s.Count(r)}, []any{pair(0, false), pair(0, false), 1 << 40})
	is(t, "to none", []any{add(s, r, -1<<40), s.Count(r)}, []any{pair(0, true), 0})
	is(t, "of a dead one", []any{add(s, r, 1), add(s, r, 0), get(s, r), s.Count(r)}, []any{pair(0, false), pair(0, false), pair(event(7), true), 0})
	for _, r := range []api.Ref{ref(1, 0), ref(2, 0), ref(-1, 0), ref(0, 1), ref(0, -1), ref(1<<63-1, 0)} {
		is(t, fmt.Sprint(r), []any{add(s, r, 1), get(s, r), s.Count(r), s.Free(r)}, []any{pair(0, false), pair(api.Event{}, false), 0, false})
	}
}

// P11.3
func TestFreed(t *testing.T) {
	s := store.New(3)
	r, _ := s.Take(event(1))
	q, _ := s.Take(event(2))
	is(t, "Used, Live", []int{s.Used(), s.Live()}, []int{2, 2})
	is(t, "Free of a live one", s.Free(r), false)
	s.Add(r, -1)
	is(t, "Used, Live, of a dead one", []int{s.Used(), s.Live()}, []int{2, 1})
	is(t, "Free", []bool{s.Free(ref(0, 1)), s.Free(r), s.Free(r), s.Free(ref(0, 1))}, []bool{false, true, false, false})
	is(t, "Used, Live, of a free one", []int{s.Used(), s.Live(), s.Count(q)}, []int{1, 1, 1})
	is(t, "what was freed", []any{add(s, r, 1), get(s, r), get(s, ref(0, 1))}, []any{pair(0, false), pair(api.Event{}, false), pair(api.Event{}, false)})
}

// P11: the document's example
func TestExample(t *testing.T) {
	s := store.New(1)
	is(t, "told", []any{take(s, event(1)), take(s, event(2)), add(s, ref(0, 0), -1), s.Free(ref(0, 0)), take(s, event(3))},
		[]any{pair(ref(0, 0), true), pair(none, false), pair(0, true), true, pair(ref(0, 1), true)})
}

// P11.4
func TestNeverAgain(t *testing.T) {
	x := rand.New(rand.NewSource(11))
	s := store.New(4)
	counts := map[api.Ref]int{}
	var gone, there []api.Ref
	for i := range 3000 {
		k := x.Intn(max(1, len(there)))
		switch op := x.Intn(4); {
		case op == 0:
			r, ok := s.Take(event(i))
			is(t, "Take", ok, len(there) < 4)
			if ok {
				there, counts[r] = append(there, r), 1
			}
		case len(there) == 0:
		case op == 1 && counts[there[k]] == 0:
			is(t, "Free", s.Free(there[k]), true)
			gone = append(gone, there[k])
			there = append(there[:k], there[k+1:]...)
		default:
			r, n := there[k], x.Intn(4)-2
			ok := counts[r] > 0 && counts[r]+n >= 0
			if ok {
				counts[r] += n
			}
			is(t, "Add", add(s, r, n), pair(map[bool]int{true: counts[r]}[ok], ok))
		}
		is(t, "Used", s.Used(), len(there))
		live := 0
		for _, r := range there {
			is(t, "Count", s.Count(r), counts[r])
			live += min(1, counts[r])
		}
		is(t, "Live", s.Live(), live)
		for _, r := range gone {
			if _, ok := s.Get(r); ok || s.Count(r) > 0 {
				t.Fatalf("%v counts again", r)
			}
		}
	}
}

func TestNil(t *testing.T) {
	var s *store.Store
	is(t, "a nil store", []any{take(s, event(1)), add(s, none, 1), get(s, none), s.Free(none), s.Count(none), s.Used(), s.Live()},
		[]any{pair(none, false), pair(0, false), pair(api.Event{}, false), false, 0, 0, 0})
}
