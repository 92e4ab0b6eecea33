package step_test

import (
	"fmt"
	"math/rand"
	"testing"

	"sibyl/api"
	"sibyl/query"
	"sibyl/step"
	"sibyl/table"
)

func made(t *testing.T, s string) api.Table {
	t.Helper()
	q, at, err := query.Parse(s)
	if err != api.OK {
		t.Fatalf("%q: %d at %d", s, err, at)
	}
	m, err := table.Make(q)
	if err != api.OK {
		t.Fatalf("%q: %d", s, err)
	}
	return m
}

func is(t *testing.T, what string, got, want any) {
	t.Helper()
	if g, w := fmt.Sprintf("%+v", got), fmt.Sprintf("%+v", want); g != w {
		t.Errorf("%s: %s, want %s", what, g, w)
	}
}

// stream is events by their types' letters, each with its place as x, and a digit behind it, if there is one, as y.
func stream(s string) []api.Event {
	var l []api.Event
	for _, c := range s {
		if c >= 'A' {
			l = append(l, api.Event{Type: int(c - 'A'), Nums: [4]int64{int64(len(l))}})
		} else {
			l[len(l)-1].Nums[1] = int64(c - '0')
		}
	}
	return l
}

func run(sets ...[]int) api.Run     { return api.Run{At: len(sets) - 1, Sets: sets} }
func blocked(sets ...[]int) api.Run { return api.Run{At: len(sets) - 1, Sets: sets, Blocked: true} }
func runs(l ...api.Run) []api.Run   { return l }
func set(l ...int) []int            { return l }

// P8.1
func TestBegun(t *testing.T) {
	ab := made(t, "seq A a, B b where a.y > 2 within 3")
	r, ok := step.Start(ab, stream("BBA3"))
	is(t, "Start", r, run(set(2)))
	is(t, "Start", ok, true)
	r, ok = step.Start(made(t, "seq A+ a, B b where #a = 1 and 0 = a.x within 3"), stream("A"))
	is(t, "Start of Plus", r, run(set(0)))
	is(t, "Start of Plus", ok, true)
	for what, hist := range map[string][]api.Event{
		"of another type": stream("A3B3"), "whose rule does not hold": stream("A3A2"), "of a type that is none": {{Type: 8}}, "of a type -1": {{Type: -1}}, "of none": nil,
	} {
		r, ok = step.Start(ab, hist)
		is(t, "Start "+what, r, api.Run{})
		is(t, "Start "+what, ok, false)
	}
	ab.Window = 0
	_, ok = step.Start(ab, stream("A3"))
	is(t, "Start of a table that is not right", ok, false)
	_, ok = step.Start(api.Table{}, stream("A3"))
	is(t, "Start of the zero table", ok, false)
}

// P8.2
func TestGoneOn(t *testing.T) {
	for _, c := range []struct {
		query, events string
		r             api.Run
		want          []api.Run
	}{
		{"seq A a, B b within 4", "AC", run(set(0)), runs(run(set(0)))},
		{"seq A a, B b within 4", "AB", run(set(0)), runs(run(set(0)), run(set(0), set(1)))},
		{"seq A a, B b within 4", "AA", run(set(0)), runs(run(set(0)))},
		{"seq A a, B b within 4", "ABC", run(set(0), set(1)), nil},
		{"seq A a, B+ b within 4", "ABC", run(set(0), set(1)), runs(run(set(0), set(1)))},
		{"seq A a, B+ b within 4", "ABB", run(set(0), set(1)), runs(run(set(0), set(1)), run(set(0), set(1, 2)))},
		{"seq A+ a, B b within 4", "AA", run(set(0)), runs(run(set(0)), run(set(0, 1)))},
		{"seq A+ a, A b within 4", "AA", run(set(0)), runs(run(set(0)), run(set(0, 1)), run(set(0), set(1)))},
		// within
		{"seq A a, B b within 3", "ACCB", run(set(0)), nil},
		{"seq A a, B b within 3", "CACB", run(set(1)), runs(run(set(1)), run(set(1), set(3)))},
		{"seq A a, B b within 1", "AB", run(set(0)), nil},
		// rules
		{"seq A a, B b where b.x > a.x + 1 within 4", "AB", run(set(0)), runs(run(set(0)))},
		{"seq A a, B b where b.x > a.x + 1 within 4", "ACB", run(set(0)), runs(run(set(0)), run(set(0), set(2)))},
		{"seq A+ a, B b where #a < 3 within 8", "AAA", run(set(0, 1)), runs(run(set(0, 1)))},
		{"seq A+ a, B b where #a < 3 within 8", "ACA", run(set(0)), runs(run(set(0)), run(set(0, 2)))},
		{"seq A+ a, B b where b.x = #a + a.x within 8", "AACB", run(set(0, 1)), runs(run(set(0, 1)), run(set(0, 1), set(3)))},
		{"seq A+ a, B+ b, C c where b.y = #b within 8", "AB1B2", run(set(0), set(1)), runs(run(set(0), set(1)), run(set(0), set(1, 2)))},
		{"seq A+ a, B+ b, C c where b.y = #b within 8", "AB1B1", run(set(0), set(1)), runs(run(set(0), set(1)))},
		// what must not come
		{"seq A a, !C c, B b within 8", "AC", run(set(0)), nil},
		{"seq A a, !C c, B b within 8", "AB", run(set(0)), runs(run(set(0)), run(set(0), set(1)))},
		{"seq A a, !C c, B b, D d within 8", "ABC", run(set(0), set(1)), runs(run(set(0), set(1)))},
		{"seq A a, !C c, B b where c.y > a.y within 8", "A4C4", run(set(0)), runs(run(set(0)))},
		{"seq A a, !C c, B b where c.y > a.y within 8", "A4C5", run(set(0)), nil},
		{"seq A a, !C c, !D d, B b where c.y = 1 within 8", "AD", run(set(0)), nil},
		{"seq A a, !B c, B b within 8", "AB", run(set(0)), runs(run(set(0), set(1)))},
		{"seq A+ a, !C c, B b within 8", "AC", run(set(0)), runs(blocked(set(0)))},
		{"seq A+ a, !C c, B b within 8", "ACB", blocked(set(0)), runs(blocked(set(0)))},
		{"seq A+ a, !C c, B b within 8", "ACA", blocked(set(0)), runs(blocked(set(0)), run(set(0, 2)))},
		{"seq A+ a, !A c, B b within 8", "AA", run(set(0)), runs(blocked(set(0)), run(set(0, 1)))},
		{"seq A+ a, !B c, B b within 8", "AB", run(set(0)), runs(blocked(set(0)), run(set(0), set(1)))},
		{"seq A+ a, !A c, A b within 8", "AA", run(set(0)), runs(blocked(set(0)), run(set(0, 1)), run(set(0), set(1)))},
		{"seq A+ a, !C c, B b where c.x = #a within 8", "AC", run(set(0)), runs(blocked(set(0)))},
		{"seq A+ a, !C c, B b where c.x = #a within 8", "AAC", run(set(0)), runs(run(set(0)))},
	} {
		m := made(t, c.query)
		is(t, c.query+" of "+c.events, step.Step(m, stream(c.events), c.r), c.want)
	}
}

// P8.2
func TestNotGoneOn(t *testing.T) {
	m := made(t, "seq A+ a, B b within 4")
	hist := stream("AAA")
	for what, r := range map[string]api.Run{
		"the zero run": {}, "one that took the newest": run(set(2)), "one out of order": run(set(1, 0)), "at no cell": {At: 7, Sets: [][]int{{0}}}, "at -1": {At: -1},
	} {
		is(t, what, len(step.Step(m, hist, r)), 0)
	}
	is(t, "an empty stream", len(step.Step(m, nil, run(set(0)))), 0)
	is(t, "an empty stream, and the zero run", len(step.Step(m, nil, api.Run{})), 0)
	m.Window = 9
	is(t, "a table that is not right", len(step.Step(m, hist, run(set(0)))), 0)
}

// P8.2: no two runs share what they put behind
func TestNothingShared(t *testing.T) {
	m := made(t, "seq A+ a, A b within 8")
	sets := make([]int, 1, 8)
	r := api.Run{Sets: [][]int{sets}}
	l := step.Step(m, stream("AA"), r)
	want := fmt.Sprintf("%+v", l)
	for i := range l {
		for k := range l[i].Sets {
			_ = append(l[i].Sets[k], 99, 99)
		}
	}
	is(t, "what was put behind", fmt.Sprintf("%+v", l), want)
	l[0].Sets[0][0] = 77
	is(t, "the others", []any{l[1].Sets, l[2].Sets, r.Sets, sets[:2]}, []any{[][]int{{0, 1}}, [][]int{{0}, {1}}, [][]int{{0}}, []int{0, 0}})
}

// P8.3
func TestAsked(t *testing.T) {
	m := made(t, "seq A+ a, B b, C+ c within 4")
	for at, want := range map[int]bool{0: false, 1: false, 2: true, 3: false, -1: false} {
		is(t, fmt.Sprint("Done at ", at), step.Done(m, api.Run{At: at}), want)
	}
	for what, c := range map[string]struct {
		r    api.Run
		n    int
		want bool
	}{
		"one":                            {run(set(0)), 1, true},
		"one, of none":                   {run(set(0)), 0, false},
		"of less than none":              {run(set(0)), -1, false},
		"no sets":                        {api.Run{}, 5, false},
		"an empty set":                   {run(set(0), set()), 5, false},
		"-1":                             {run(set(-1)), 5, false},
		"rising":                         {run(set(0, 1), set(2), set(3)), 4, true},
		"the last is too far":            {run(set(0, 1), set(2), set(4)), 5, false},
		"the last is new":                {run(set(0, 1), set(2), set(3)), 3, false},
		"twice the same":                 {run(set(0, 0)), 4, false},
		"the same in the next":           {run(set(0, 1), set(1)), 4, false},
		"falling":                        {run(set(2), set(1)), 4, false},
		"two of a cell that is not Plus": {run(set(0), set(1, 2)), 4, false},
		"two of the last one":            {run(set(0), set(1), set(2, 3)), 4, true},
		"far on":                         {run(set(1000), set(1003)), 1004, true},
		"far":                            {run(set(1000), set(1004)), 1005, false},
		"too many sets":                  {api.Run{Sets: [][]int{{0}, {1}}}, 4, false},
		"too few sets":                   {api.Run{At: 1, Sets: [][]int{{0}}}, 4, false},
		"four sets":                      {run(set(0), set(1), set(2), set(3)), 4, false},
		"at -1":                          {api.Run{At: -1}, 4, false},
		"far off":                        {api.Run{At: 1<<63 - 1, Sets: [][]int{{0}}}, 4, false},
		"blocked at Plus":                {blocked(set(0)), 4, true},
		"blocked at no Plus":             {blocked(set(0), set(1)), 4, false},
		"blocked at the end":             {blocked(set(0), set(1), set(2)), 4, true},
	} {
		is(t, "Fits: "+what, step.Fits(m, c.r, c.n), c.want)
	}
	m.Cells[0].Type = 8
	is(t, "Done of a table that is not right", step.Done(m, api.Run{At: 2}), false)
	is(t, "Fits of a table that is not right", step.Fits(m, run(set(0)), 1), false)
	is(t, "Done of no table", step.Done(api.Table{}, api.Run{At: -1}), false)
}

// P8.4
func TestStillFits(t *testing.T) {
	r := rand.New(rand.NewSource(8))
	for _, s := range []string{"seq A+ a, !C c, B+ b, A d within 6", "seq A a, B+ b where b.x > a.x within 4", "seq A+ a, A+ b, A+ c within 8"} {
		m := made(t, s)
		var hist []api.Event
		var l []api.Run
		for range 60 {
			hist = append(hist, api.Event{Type: r.Intn(3), Nums: [4]int64{r.Int63n(5)}})
			var next []api.Run
			for _, x := range l {
				got := step.Step(m, hist, x)
				fresh := 0
				for _, y := range got {
					if !step.Fits(m, y, len(hist)) {
						t.Fatalf("%s: %v of %v does not fit", s, y, x)
					}
					last := y.Sets[y.At]
					if last[len(last)-1] == len(hist)-1 {
						fresh++
					}
				}
				if fresh > 2 || len(got) > 3 {
					t.Fatalf("%s: %v comes of %v", s, got, x)
				}
				next = append(next, got...)
			}
			if x, ok := step.Start(m, hist); ok {
				next = append(next, x)
			}
			l = next
		}
	}
}
