package epoch_test

import (
	"fmt"
	"math/rand"
	"testing"

	"sibyl/api"
	"sibyl/epoch"
)

func is(t *testing.T, what string, got, want any) {
	t.Helper()
	if g, w := fmt.Sprint(got), fmt.Sprint(want); g != w {
		t.Errorf("%s: %s, want %s", what, g, w)
	}
}

func pinned(x *epoch.Epochs, a int) []any {
	at, ok := x.Pinned(a)
	return []any{at, ok}
}

func ref(n int) api.Ref { return api.Ref{Slot: n, Gen: n * n} }

// P12.1
func TestMade(t *testing.T) {
	for actors, want := range map[int]bool{-1: false, 0: false, 1: true, 2: true, api.MaxActors: true, api.MaxActors + 1: false, 1<<63 - 1: false} {
		x := epoch.New(actors)
		is(t, fmt.Sprint("New of ", actors), x != nil, want)
		if want {
			is(t, "a new one", []any{x.Now(), pinned(x, actors-1), x.Limbo(actors - 1), len(x.Ripe(actors - 1))}, []any{0, []any{0, false}, 0, 0})
			is(t, "its last actor, and one more", []bool{x.Pin(actors - 1), x.Pin(actors)}, []bool{true, false})
		}
	}
}

// P12.2
func TestPinned(t *testing.T) {
	x := epoch.New(2)
	is(t, "Unpin", x.Unpin(0), false)
	is(t, "Pin", []bool{x.Pin(0), x.Pin(0)}, []bool{true, false})
	is(t, "Pinned", []any{pinned(x, 0), pinned(x, 1)}, []any{[]any{0, true}, []any{0, false}})
	x.Advance()
	is(t, "Pin, later", []bool{x.Pin(0), x.Pin(1)}, []bool{false, true})
	is(t, "Pinned, later", []any{x.Now(), pinned(x, 0), pinned(x, 1)}, []any{1, []any{0, true}, []any{1, true}})
	is(t, "Unpin", []bool{x.Unpin(0), x.Unpin(0)}, []bool{true, false})
	is(t, "Pinned, then", pinned(x, 0), []any{0, false})
	is(t, "Pin anew", []any{x.Pin(0), pinned(x, 0)}, []any{true, []any{1, true}})
	for _, a := range []int{-1, 2, 15, 16, 1<<63 - 1, -1 << 63} {
		is(t, fmt.Sprint("actor ", a), []any{x.Pin(a), x.Unpin(a), pinned(x, a), x.Retire(a, ref(1)), len(x.Ripe(a)), x.Limbo(a)},
			[]any{false, false, []any{0, false}, false, 0, 0})
	}
}

// P12.3
func TestLimbo(t *testing.T) {
	x := epoch.New(2)
	is(t, "Retire", []bool{x.Retire(0, ref(1)), x.Retire(0, ref(2)), x.Retire(1, ref(3)), x.Retire(0, ref(1))}, []bool{true, true, true, true})
	is(t, "Limbo", []int{x.Limbo(0), x.Limbo(1)}, []int{3, 1})
	is(t, "Ripe at 0", len(x.Ripe(0)), 0)
	x.Advance()
	is(t, "Now", x.Now(), 1)
	x.Retire(0, ref(4))
	is(t, "Ripe at 1", len(x.Ripe(0)), 0)
	x.Advance()
	x.Retire(0, ref(5))
	is(t, "Ripe at 2", x.Ripe(0), []api.Ref{ref(1), ref(2), ref(1)})
	is(t, "Ripe again", len(x.Ripe(0)), 0)
	is(t, "Limbo", []int{x.Limbo(0), x.Limbo(1)}, []int{2, 1})
	x.Advance()
	is(t, "Ripe at 3", x.Ripe(0), []api.Ref{ref(4)})
	x.Advance()
	x.Advance()
	is(t, "Ripe at 5", []any{x.Ripe(0), x.Ripe(1), x.Limbo(0), x.Limbo(1)}, []any{[]api.Ref{ref(5)}, []api.Ref{ref(3)}, 0, 0})
}

// P12.3
func TestAdvanced(t *testing.T) {
	x := epoch.New(3)
	x.Pin(1)
	is(t, "Advance, pinned now", []any{x.Advance(), x.Now()}, []any{true, 1})
	is(t, "Advance, pinned ahead", []any{x.Advance(), x.Now()}, []any{false, 1})
	x.Pin(2)
	x.Unpin(1)
	is(t, "Advance, another one pinned now", []any{x.Advance(), x.Now()}, []any{true, 2})
	is(t, "Advance, another one pinned ahead", []any{x.Advance(), x.Now()}, []any{false, 2})
	x.Unpin(2)
	is(t, "Advance, none pinned", []any{x.Advance(), x.Advance(), x.Now()}, []any{true, true, 4})
}

// P12: the document's examples
func TestExamples(t *testing.T) {
	x := epoch.New(2)
	is(t, "told", []any{x.Pin(0), x.Retire(1, ref(7)), x.Advance(), x.Advance(), len(x.Ripe(1))}, []any{true, true, true, false, 0})
	is(t, "then", []any{x.Unpin(0), x.Advance(), x.Ripe(1)}, []any{true, true, []api.Ref{ref(7)}})
}

// P12.4
func TestNotRipeWhilePinned(t *testing.T) {
	r := rand.New(rand.NewSource(12))
	x := epoch.New(4)
	seen := map[api.Ref][4]bool{} // who was pinned when it was retired, and was not unpinned since
	for i := range 5000 {
		a := r.Intn(4)
		switch r.Intn(5) {
		case 0:
			x.Pin(a)
		case 1:
			x.Unpin(a)
			for k, who := range seen {
				who[a] = false
				seen[k] = who
			}
		case 2:
			var who [4]bool
			for b := range who {
				_, who[b] = x.Pinned(b)
			}
			seen[ref(i)] = who
			x.Retire(a, ref(i))
		case 3:
			x.Advance()
		case 4:
			for _, k := range x.Ripe(a) {
				if seen[k] != [4]bool{} {
					t.Fatalf("%v is ripe, while %v are pinned", k, seen[k])
				}
				delete(seen, k)
			}
		}
	}
	for a := range 4 {
		x.Unpin(a)
	}
	x.Advance()
	x.Advance()
	for a := range 4 {
		n := x.Limbo(a)
		is(t, "Ripe behind two advances", len(x.Ripe(a)), n)
		is(t, "Limbo", x.Limbo(a), 0)
	}
}

func TestNil(t *testing.T) {
	var x *epoch.Epochs
	is(t, "nil epochs", []any{x.Now(), x.Pin(0), x.Unpin(0), pinned(x, 0), x.Retire(0, ref(1)), x.Advance(), len(x.Ripe(0)), x.Limbo(0)},
		[]any{0, false, false, []any{0, false}, false, false, 0, 0})
}
