package sense_test

import (
	"fmt"
	"math/rand"
	"slices"
	"strings"
	"testing"

	"sibyl/api"
	"sibyl/check"
	"sibyl/pred"
	"sibyl/query"
	"sibyl/sense"
	"sibyl/step"
	"sibyl/table"
	"sibyl/tuple"
)

func parse(t *testing.T, s string) (api.Query, api.Table) {
	t.Helper()
	q, at, err := query.Parse(s)
	if err != api.OK {
		t.Fatalf("%q: %d at %d", s, err, at)
	}
	m, err := table.Make(q)
	if err != api.OK {
		t.Fatalf("%q: %d", s, err)
	}
	return q, m
}

func is(t *testing.T, what string, got, want any) {
	t.Helper()
	if g, w := fmt.Sprintf("%+v", got), fmt.Sprintf("%+v", want); g != w {
		t.Errorf("%s: %s, want %s", what, g, w)
	}
}

// stream is events by their types' letters; a digit behind one is its x, a sign its key: ' 1, " 2, else 0.
func stream(s string) []api.Event {
	var l []api.Event
	for _, c := range s {
		switch {
		case c >= 'A':
			l = append(l, api.Event{Type: int(c - 'A')})
		case c >= '0':
			l[len(l)-1].Nums[0] = int64(c - '0')
		default:
			l[len(l)-1].Key = 1 + strings.IndexRune(`'"`, c)
		}
	}
	return l
}

// told are matches as the document writes them.
func told(l [][][]int) string {
	var texts []string
	for _, m := range l {
		text := ""
		for _, set := range m {
			text += "(" + strings.Trim(fmt.Sprint(set), "[]") + ")"
		}
		texts = append(texts, text)
	}
	return strings.Join(texts, " ")
}

// P9.1
func TestExamples(t *testing.T) {
	for _, c := range [][3]string{
		{"seq A+ a, B b within 4", "AAB", "(0)(2) (0 1)(2) (1)(2)"},
		{"seq A a, B b within 4", "", ""},
		{"seq A a, B b within 4", "BA", ""},
		{"seq A a within 1", "ABA", "(0) (2)"},
		{"seq A a, B b within 2", "ABCB", "(0)(1)"},
		{"seq A a, B b within 4", "ABCBB", "(0)(1) (0)(3)"},
		{"seq A a, A b within 3", "AAAA", "(0)(1) (0)(2) (1)(2) (1)(3) (2)(3)"},
		{"seq A a, B+ b within 3", "ABBB", "(0)(1) (0)(1 2) (0)(2)"},
		{"seq A+ a within 2", "AAA", "(0) (0 1) (1) (1 2) (2)"},
		{"seq A a, !C c, B b within 8", "ACBAB", "(3)(4)"},
		{"seq A+ a, !C c, B b within 8", "ACAB", "(0 2)(3) (2)(3)"},
		{"seq A a, !C c, B b where c.x > a.x within 8", "A3C3BC4B", "(0)(2)"},
		{"seq A a, !B c, B b within 8", "ABB", "(0)(1)"},
		{"seq A a, B b where b.x > a.x within 8", "A2B2B3A2B1", "(0)(2)"},
		{"seq A+ a, B b where #a = 2 within 8", "AAAB", ""},
		{"seq A+ a, B b where b.x = #a within 8", "AAAB2", "(0 1)(3) (0 2)(3) (1 2)(3)"},
		{"seq A+ a, B b where a.x >= #a within 8", "A1A2A1B", "(0)(3) (0 1)(3) (1)(3) (2)(3)"},
		// by keys: each key's events are a stream, and so is the window
		{"seq A a, B b within 2 by key", `A'A"B"B'`, "(1)(2) (0)(3)"},
		{"seq A a, B b within 2", `A'A"B"B'`, "(1)(2)"},
		{"seq A a, B b within 2 by key", `A'A"C"B"B'`, "(0)(4)"},
		{"seq A a, !C c, B b within 3 by key", `A'C"B'`, "(0)(2)"},
		{"seq A a, A b within 2 by key", `AA'AA'`, "(0)(2) (1)(3)"},
	} {
		_, m := parse(t, c[0])
		is(t, c[0]+" of "+c[1], told(sense.Over(m, stream(c[1])...)), c[2])
	}
}

// meant are all matches of a query, as the document's words say, of one stream: the places of its events, whose numbers are told.
func meant(q api.Query, events []api.Event, numbers []int) [][][]int {
	rules := check.Rules(q)
	var l [][][]int
	sets := make([][]int, len(q.Elems))
	look := func(upTo int) [][]api.Event {
		s := make([][]api.Event, len(sets))
		for i := range upTo {
			for _, at := range sets[i] {
				s[i] = append(s[i], events[at])
			}
		}
		return s
	}
	holds := func(elem int) bool {
		s := look(elem)
		for _, at := range sets[elem] {
			s[elem] = append(s[elem], events[at])
			if events[at].Type != q.Elems[elem].Type || !pred.All(rules[elem], s) {
				return false
			}
		}
		return true
	}
	forbidden := func(not, ahead, behind int) bool {
		s := look(not)
		for at := sets[ahead][len(sets[ahead])-1] + 1; at < sets[behind][0]; at++ {
			s[not] = []api.Event{events[at]}
			if events[at].Type == q.Elems[not].Type && pred.All(rules[not], s) {
				return true
			}
		}
		return false
	}
	var choose func(elem, ahead, from int)
	choose = func(elem, ahead, from int) {
		if elem == len(q.Elems) {
			var m [][]int
			for i, e := range q.Elems {
				if !e.Not {
					var set []int
					for _, at := range sets[i] {
						set = append(set, numbers[at])
					}
					m = append(m, set)
				}
			}
			if last := sets[len(sets)-1]; last[len(last)-1]-sets[0][0] < q.Window {
				l = append(l, m)
			}
			return
		}
		if q.Elems[elem].Not {
			choose(elem+1, ahead, from)
			return
		}
		for bits := 1; bits < 1<<(len(events)-from); bits++ {
			var set []int
			for i := range len(events) - from {
				if bits>>i&1 == 1 {
					set = append(set, from+i)
				}
			}
			if len(set) > 1 && !q.Elems[elem].Plus {
				continue
			}
			sets[elem] = set
			ok := holds(elem)
			for not := ahead + 1; ok && not < elem; not++ {
				ok = !forbidden(not, ahead, elem)
			}
			if ok {
				choose(elem+1, elem, set[len(set)-1]+1)
			}
		}
		sets[elem] = nil
	}
	choose(0, -1, 0)
	return l
}

func allMeant(q api.Query, events []api.Event) [][][]int {
	places := map[int][]int{}
	for i, e := range events {
		key := 0
		if q.ByKey {
			key = e.Key
		}
		places[key] = append(places[key], i)
	}
	var l [][][]int
	for _, numbers := range places {
		var of []api.Event
		for _, n := range numbers {
			of = append(of, events[n])
		}
		l = append(l, meant(q, of, numbers)...)
	}
	l = tuple.Sort(l)
	slices.SortStableFunc(l, func(a, b [][]int) int { return last(a) - last(b) })
	return l
}

func last(m [][]int) int {
	set := m[len(m)-1]
	return set[len(set)-1]
}

var queries = []string{
	"seq A a, B b within 4",
	"seq A a within 1 by key",
	"seq A+ a, B b within 8 by key",
	"seq A+ a, B+ b within 5",
	"seq A a, !B b, C+ c where b.x > a.x within 6",
	"seq A+ a, !B b, C c where b.x = #a within 7 by key",
	"seq A+ a, !B b, !C c, A+ d, B e where c.x < a.x and d.x > a.x - 2 within 6",
	"seq A a, B b, C c where c.x = a.x + b.x within 8",
	"seq A+ a, B b where a.x > 1 / (#a - 2) within 6",
	"seq A+ a, !A b, A c where a.x != 1 within 8",
	"seq A a, !B b, B+ c, !C d, A e where d.x >= #c and b.x % 2 = a.x % 2 within 7",
	"seq B+ a, A+ b where #a + #b < 4 and b.x <= a.x within 5 by key",
}

// P9.1
func TestMeant(t *testing.T) {
	r := rand.New(rand.NewSource(9))
	for _, s := range queries {
		q, m := parse(t, s)
		for range 60 {
			events := make([]api.Event, r.Intn(10))
			for i := range events {
				events[i] = api.Event{Type: r.Intn(3), Key: r.Intn(2) - 1, Nums: [4]int64{r.Int63n(4)}}
			}
			if got, want := told(sense.Over(m, events...)), told(allMeant(q, events)); got != want {
				t.Fatalf("%s of %v: %s, want %s", s, events, got, want)
			}
		}
	}
}

// P9.1
func TestNotRight(t *testing.T) {
	_, m := parse(t, "seq A a within 1")
	m.Window = 9
	is(t, "Over of a table that is not right", len(sense.Over(m, stream("AA")...)), 0)
	is(t, "Over of no table", len(sense.Over(api.Table{}, stream("AA")...)), 0)
	is(t, "New of a table that is not right", sense.New(m) == nil, true)
	is(t, "New of no table", sense.New(api.Table{}) == nil, true)
	var none *sense.Sense
	is(t, "a nil sense", []int{len(none.Push(api.Event{})), none.Count(), none.Runs()}, []int{0, 0, 0})
}

// P9.2, P9.3
func TestAsTheyCome(t *testing.T) {
	r := rand.New(rand.NewSource(92))
	for _, s := range queries {
		_, m := parse(t, s)
		var events []api.Event
		var all [][][]int
		x := sense.New(m)
		streams := map[int][]api.Event{}
		kept := map[int][]api.Run{}
		for i := range 40 {
			e := api.Event{Type: r.Intn(4), Key: r.Intn(3), Nums: [4]int64{r.Int63n(4)}}
			events = append(events, e)
			got := x.Push(e)
			for _, match := range got {
				if last(match) != i {
					t.Fatalf("%s: %v is told of event %d", s, match, i)
				}
			}
			all = append(all, got...)
			if want := told(sense.Over(m, events...)); told(all) != want {
				t.Fatalf("%s: as they come %s, over all %s", s, told(all), want)
			}
			is(t, "Count", x.Count(), i+1)
			if !m.ByKey {
				e.Key = 0
			}
			streams[e.Key] = append(streams[e.Key], e)
			kept[e.Key] = on(m, streams[e.Key], kept[e.Key])
			runs := 0
			for _, l := range kept {
				runs += len(l)
			}
			if x.Runs() != runs {
				t.Fatalf("%s: %d runs behind %v, want %d", s, x.Runs(), events, runs)
			}
		}
	}
}

// on are the runs behind the newest event of a stream.
func on(m api.Table, hist []api.Event, l []api.Run) []api.Run {
	var next []api.Run
	put := func(r api.Run) {
		if !step.Done(m, r) || m.Cells[r.At].Plus {
			next = append(next, r)
		}
	}
	for _, r := range l {
		for _, r := range step.Step(m, hist, r) {
			put(r)
		}
	}
	if r, ok := step.Start(m, hist); ok {
		put(r)
	}
	return next
}

// P9.2: what was handed in, and what was told, are no part of a sense
func TestNothingShared(t *testing.T) {
	_, m := parse(t, "seq A a, B b where b.x > 2 within 4")
	x := sense.New(m)
	m.Cells[1].Type = 5
	m.Cells[1].Rules[0].Right[0].N = 9
	x.Push(stream("A")[0])
	first := x.Push(stream("B3")[0])
	is(t, "told", told(first), "(0)(1)")
	first[0][0][0] = 77
	is(t, "told again", told(x.Push(stream("B3")[0])), "(0)(2)")
}

// P9.2
func TestRunsOver(t *testing.T) {
	_, m := parse(t, "seq A a, B b within 3")
	x := sense.New(m)
	is(t, "a new one", []int{x.Count(), x.Runs()}, []int{0, 0})
	for i, want := range []int{1, 1, 2, 1, 1, 0} {
		x.Push(stream("ABACCC")[i])
		is(t, fmt.Sprint("Runs behind ", i), x.Runs(), want)
	}
	is(t, "Count", x.Count(), 6)
}
