package runs_test

import (
	"fmt"
	"math/rand"
	"slices"
	"testing"

	"sibyl/api"
	"sibyl/query"
	"sibyl/runs"
	"sibyl/sense"
	"sibyl/step"
	"sibyl/table"
	"sibyl/tuple"
)

func made(t *testing.T, s string) api.Table {
	t.Helper()
	q, at, err := query.Parse(s)
	if err != api.OK {
		t.Fatalf("%q: %d at %d", s, err, at)
	}
	m, err := table.Make(q)
	if err != api.OK {
		t.Fatalf("%q: %d", s, err)
	}
	return m
}

func is(t *testing.T, what string, got, want any) {
	t.Helper()
	if g, w := fmt.Sprintf("%+v", got), fmt.Sprintf("%+v", want); g != w {
		t.Errorf("%s: %s, want %s", what, g, w)
	}
}

func ref(n int) api.Ref { return api.Ref{Slot: n, Gen: n % 3} }

func refs(l ...int) (r []api.Ref) {
	for _, n := range l {
		r = append(r, ref(n))
	}
	return r
}

// feeder has events lie at refs of their numbers, and stamps that are ten times these.
type feeder struct {
	x      *runs.Runs
	events map[api.Ref]api.Event
	n      int
}

func newFeeder(m api.Table, most int) *feeder {
	return &feeder{x: runs.New(m, most), events: map[api.Ref]api.Event{}}
}

func (f *feeder) get(r api.Ref) (api.Event, bool) {
	e, ok := f.events[r]
	return e, ok
}

func (f *feeder) feed(e api.Event) api.Fed {
	r := ref(f.n)
	f.events[r] = e
	f.n++
	return f.x.Feed(10*(f.n-1), r, e, f.get)
}

func (f *feeder) all(s string) (l []api.Fed) {
	for _, c := range s {
		l = append(l, f.feed(api.Event{Type: int(c - 'A')}))
	}
	return l
}

func sorted(l []api.Ref) []api.Ref {
	l = slices.Clone(l)
	slices.SortFunc(l, func(a, b api.Ref) int { return a.Slot - b.Slot })
	return l
}

func told(t *testing.T, what string, fed api.Fed, found []api.Found, ups, downs []api.Ref) {
	t.Helper()
	is(t, what+": Found", fed.Found, found)
	is(t, what+": Ups", sorted(fed.Ups), ups)
	is(t, what+": Downs", sorted(fed.Downs), downs)
	is(t, what+": Lost", fed.Lost, false)
}

func match(refs []api.Ref, sets ...[]int) api.Found { return api.Found{Sets: sets, Refs: refs} }

// P14.1
func TestMade(t *testing.T) {
	m := made(t, "seq A a, B b within 2")
	for most, want := range map[int]bool{-1: false, 0: false, 1: true, 4096: true, 4097: false, 1<<63 - 1: false} {
		is(t, fmt.Sprint("New of ", most), runs.New(m, most) != nil, want)
	}
	x := runs.New(m, 1)
	is(t, "a new one", []any{x.Count(), x.Lost(), x.Misses(), len(x.End())}, []any{0, false, 0, 0})
	m.Window = 0
	is(t, "New of a table that is not right", runs.New(m, 1) == nil, true)
	is(t, "New of no table", runs.New(api.Table{}, 1) == nil, true)
}

// P14.2: the document's example
func TestExample(t *testing.T) {
	f := newFeeder(made(t, "seq A a, B b within 2"), 10)
	l := f.all("ABA")
	told(t, "A", l[0], nil, refs(0), nil)
	told(t, "B", l[1], []api.Found{match(refs(0, 1), []int{0}, []int{10})}, refs(0, 1), nil)
	told(t, "A again", l[2], nil, refs(2), refs(0))
	is(t, "Count", f.x.Count(), 1)
}

// P14.2
func TestFed(t *testing.T) {
	f := newFeeder(made(t, "seq A a within 1"), 10)
	told(t, "one that does not go on", f.all("A")[0], []api.Found{match(refs(0), []int{0})}, refs(0), nil)
	is(t, "Count", f.x.Count(), 0)

	f = newFeeder(made(t, "seq A+ a within 2"), 10)
	l := f.all("AAB")
	told(t, "one that goes on", l[0], []api.Found{match(refs(0), []int{0})}, refs(0, 0), nil)
	told(t, "two", l[1], []api.Found{match(refs(0, 1), []int{0, 10}), match(refs(1), []int{10})}, refs(0, 1, 1, 1, 1), nil)
	is(t, "Downs behind two", sorted(l[2].Downs), refs(0, 1))
	is(t, "Count", f.x.Count(), 1)

	f = newFeeder(made(t, "seq A+ a, !C c, B b within 8"), 10)
	l = f.all("ACAB")
	told(t, "what is blocked is held", l[1], nil, nil, nil)
	told(t, "it may go on", l[2], nil, refs(2, 2), nil)
	told(t, "and be a match", l[3], []api.Found{match(refs(0, 2, 3), []int{0, 20}, []int{30}), match(refs(2, 3), []int{20}, []int{30})}, refs(0, 2, 2, 3, 3), nil)

	f = newFeeder(made(t, "seq A a, !C c, B b within 8"), 10)
	told(t, "what must not come", f.all("AC")[1], nil, nil, refs(0))

	// the guard ends the run at A, but the node of A is held by what came of it
	f = newFeeder(made(t, "seq A a, !B c, B b, C d within 8"), 10)
	l = f.all("ABC")
	told(t, "a beginning is held", l[1], nil, refs(1), nil)
	told(t, "up to the end", l[2], []api.Found{match(refs(0, 1, 2), []int{0}, []int{10}, []int{20})}, refs(0, 1, 2), nil)
	is(t, "Count", f.x.Count(), 1)
	is(t, "End", sorted(f.x.End()), refs(0, 1))
}

// P14.2: what runs took is read by get alone
func TestRead(t *testing.T) {
	m := made(t, "seq A a, B b where b.x = a.x within 4")
	f := newFeeder(m, 10)
	f.feed(api.Event{Nums: [4]int64{5}})
	f.events[ref(0)] = api.Event{Nums: [4]int64{7}}
	is(t, "as it was", len(f.feed(api.Event{Type: 1, Nums: [4]int64{5}}).Found), 0)
	is(t, "as it is read", len(f.feed(api.Event{Type: 1, Nums: [4]int64{7}}).Found), 1)
	is(t, "Misses", f.x.Misses(), 0)
	clear(f.events)
	is(t, "as nothing", len(f.x.Feed(1000, ref(9), api.Event{Type: 1}, f.get).Found), 1)
	is(t, "Misses", f.x.Misses() > 0, true)
}

// P14.3
func TestTooMany(t *testing.T) {
	f := newFeeder(made(t, "seq A+ a, B b within 8"), 3)
	l := f.all("AA")
	is(t, "as many as may be", []any{f.x.Count(), f.x.Lost(), l[1].Lost}, []any{3, false, false})
	fed := f.all("A")[0]
	is(t, "too many", []any{fed.Lost, len(fed.Found), len(fed.Ups), sorted(fed.Downs)}, []any{true, 0, 0, refs(0, 1, 1)})
	is(t, "then", []any{f.x.Lost(), f.x.Count(), len(f.x.End())}, []any{true, 0, 0})
	for _, fed := range f.all("AAB") {
		is(t, "from then on", fed, api.Fed{})
	}
	is(t, "at last", []any{f.x.Lost(), f.x.Count(), f.x.Misses()}, []any{true, 0, 0})
}

// P14.3: what is too many is so in a stream of its own; all streams are gone then
func TestTooManyByKey(t *testing.T) {
	f := newFeeder(made(t, "seq A+ a, B b within 8 by key"), 3)
	for key := range 5 {
		f.feed(api.Event{Key: -key})
		is(t, "Lost", f.feed(api.Event{Key: -key}).Lost, false)
	}
	is(t, "Count", f.x.Count(), 15)
	fed := f.feed(api.Event{Key: -2})
	is(t, "too many of one", []any{fed.Lost, len(fed.Found), len(fed.Ups), sorted(fed.Downs)}, []any{true, 0, 0, refs(0, 1, 1, 2, 3, 3, 4, 5, 5, 6, 7, 7, 8, 9, 9)})
	is(t, "then", []any{f.x.Count(), f.x.Lost()}, []any{0, true})

	// what does not go on is none of them
	f = newFeeder(made(t, "seq A a, B b within 8"), 1)
	l := f.all("ABB")
	is(t, "as many as may be, and a match", []any{len(l[1].Found), len(l[2].Found), f.x.Lost()}, []any{1, 1, false})

	// a match in the event with which there are too many is not found
	f = newFeeder(made(t, "seq A+ a within 8"), 2)
	is(t, "one", len(f.all("A")[0].Found), 1)
	fed = f.all("A")[0]
	is(t, "three", []any{fed.Lost, len(fed.Found), len(fed.Ups), fed.Downs}, []any{true, 0, 0, refs(0)})
}

// P14.4
func TestEnded(t *testing.T) {
	f := newFeeder(made(t, "seq A+ a, B b within 3 by key"), 100)
	for _, key := range []int{1, 2, 1} {
		f.feed(api.Event{Key: key})
	}
	is(t, "Count", f.x.Count(), 4)
	is(t, "End", sorted(f.x.End()), refs(0, 1, 2, 2))
	is(t, "then", []any{f.x.Count(), f.x.Lost(), len(f.x.End())}, []any{0, false, 0})
	is(t, "a match of what is gone", len(f.feed(api.Event{Type: 1, Key: 1}).Found), 0)
	f.feed(api.Event{Key: 1})
	fed := f.feed(api.Event{Type: 1, Key: 1})
	told(t, "from the beginning", fed, []api.Found{match(refs(4, 5), []int{40}, []int{50})}, refs(4, 5), nil)
}

var queries = []string{
	"seq A a, B b within 4",
	"seq A a within 1 by key",
	"seq A+ a, B b within 8 by key",
	"seq A+ a, B+ b within 5",
	"seq A a, !B b, C+ c where b.x > a.x within 6",
	"seq A+ a, !B b, C c where b.x = #a within 7 by key",
	"seq A+ a, !B b, !C c, A+ d, B e where c.x < a.x and d.x > a.x - 2 within 6",
	"seq A+ a, !A b, A c where a.x != 1 within 8",
	"seq B+ a, A+ b where #a + #b < 4 and b.x <= a.x within 5 by key",
}

// P14.2, P14.5
func TestAsSensed(t *testing.T) {
	r := rand.New(rand.NewSource(14))
	for _, s := range queries {
		m := made(t, s)
		f := newFeeder(m, 4096)
		x := sense.New(m)
		held := map[api.Ref]int{}
		streams := map[int]*naive{}
		for i := range 60 {
			e := api.Event{Type: r.Intn(3), Key: r.Intn(3), Nums: [4]int64{r.Int63n(4)}}
			fed := f.feed(e)
			var got, want [][][]int
			for _, found := range fed.Found {
				got = append(got, found.Sets)
				var at []api.Ref
				for _, stamp := range tuple.Flat(found.Sets) {
					at = append(at, ref(stamp/10))
				}
				is(t, s+": Refs", found.Refs, at)
			}
			for _, match := range x.Push(e) {
				for _, set := range match {
					for k := range set {
						set[k] *= 10
					}
				}
				want = append(want, match)
			}
			is(t, s, got, want)
			is(t, s+": Count", f.x.Count(), x.Runs())
			for _, r := range fed.Ups {
				held[r]++
			}
			for _, r := range fed.Downs {
				held[r]--
			}
			for _, found := range fed.Found {
				for _, r := range found.Refs {
					held[r]-- // what is left is held by nodes
				}
			}
			key := 0
			if m.ByKey {
				key = e.Key
			}
			if streams[key] == nil {
				streams[key] = &naive{}
			}
			streams[key].push(m, e, i)
			nodes := map[api.Ref]int{}
			for _, st := range streams {
				st.nodes(nodes)
			}
			for k := range i + 1 {
				if held[ref(k)] != nodes[ref(k)] {
					t.Fatalf("%s: event %d is held %d times behind %d, of %d nodes", s, k, held[ref(k)], i, nodes[ref(k)])
				}
			}
		}
		for _, r := range f.x.End() {
			held[r]--
		}
		for r, n := range held {
			is(t, fmt.Sprint(s, ": held at the end: ", r), n, 0)
		}
	}
}

// naive is a stream whose runs are kept whole.
type naive struct {
	hist    []api.Event
	numbers []int
	runs    []api.Run
}

func (s *naive) push(m api.Table, e api.Event, number int) {
	s.hist = append(s.hist, e)
	s.numbers = append(s.numbers, number)
	var next []api.Run
	for _, r := range s.runs {
		next = append(next, step.Step(m, s.hist, r)...)
	}
	if r, ok := step.Start(m, s.hist); ok {
		next = append(next, r)
	}
	s.runs = slices.DeleteFunc(next, func(r api.Run) bool { return step.Done(m, r) && !m.Cells[r.At].Plus })
}

// nodes counts, of each ref, the beginnings of runs that end with it, each once.
func (s *naive) nodes(of map[api.Ref]int) {
	seen := map[string]bool{}
	for _, r := range s.runs {
		text := ""
		for cell, set := range r.Sets {
			for _, at := range set {
				text += fmt.Sprint(cell, ":", at, " ")
				if !seen[text] {
					seen[text] = true
					of[ref(s.numbers[at])]++
				}
			}
		}
	}
}

func TestNil(t *testing.T) {
	var x *runs.Runs
	is(t, "nil runs", []any{x.Feed(1, ref(0), api.Event{}, func(api.Ref) (api.Event, bool) { return api.Event{}, false }), len(x.End()), x.Count(), x.Lost(), x.Misses()},
		[]any{api.Fed{}, 0, 0, false, 0})
}
