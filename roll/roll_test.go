package roll_test

import (
	"fmt"
	"math/rand"
	"testing"

	"sibyl/api"
	"sibyl/roll"
)

func is(t *testing.T, what string, got, want any) {
	t.Helper()
	if g, w := fmt.Sprintf("%+v", got), fmt.Sprintf("%+v", want); g != w {
		t.Errorf("%s: %s, want %s", what, g, w)
	}
}

// table is one that can be told from those of other numbers.
func table(n int) api.Table {
	return api.Table{Cells: []api.Cell{{Type: n, Rules: []api.Rule{{Op: n, Left: []api.Code{{N: int64(n)}}}}}}, Window: n}
}

func entry(id, to int) api.Entry { return api.Entry{ID: id, To: to, Table: table(id)} }

func live(r *roll.Roll, at int) (l []api.Entry) {
	for e := range r.Live(at) {
		l = append(l, e)
	}
	return l
}

func find(r *roll.Roll, id int) []any {
	e, ok := r.Find(id)
	return []any{e, ok}
}

func add(t *testing.T, r *roll.Roll, id int) *roll.Roll {
	t.Helper()
	next, ok := r.Add(id, table(id))
	is(t, fmt.Sprint("Add of ", id), ok, true)
	return next
}

func end(t *testing.T, r *roll.Roll, id, at int) *roll.Roll {
	t.Helper()
	next, ok := r.End(id, at)
	is(t, fmt.Sprint("End of ", id, " at ", at), ok, true)
	return next
}

// P15.1
func TestAdded(t *testing.T) {
	var none *roll.Roll
	for _, id := range []int{-1, -1 << 63} {
		r, ok := none.Add(id, table(1))
		is(t, fmt.Sprint("Add of ", id), []any{r == nil, ok}, []any{true, false})
	}
	r := add(t, none, 0)
	is(t, "Find", []any{find(r, 0), find(r, 1), find(r, -1)}, []any{[]any{entry(0, -1), true}, []any{api.Entry{}, false}, []any{api.Entry{}, false}})
	r = add(t, add(t, r, 3), 1<<62)
	for _, id := range []int{-1, 0, 2, 3, 4, 1 << 62} {
		same, ok := r.Add(id, table(1))
		is(t, fmt.Sprint("Add of ", id), []any{same == r, ok}, []any{true, false})
	}
	is(t, "Live", live(r, 1<<62+1), []api.Entry{entry(0, -1), entry(3, -1), entry(1<<62, -1)})
	is(t, "an ended one's id counts", added(end(t, add(t, none, 5), 5, 6), 5), false)
}

func added(r *roll.Roll, id int) bool {
	_, ok := r.Add(id, table(id))
	return ok
}

// P15.2
func TestEnded(t *testing.T) {
	r := add(t, add(t, add(t, nil, 2), 4), 6)
	for _, c := range [][2]int{{3, 9}, {0, 9}, {-1, 9}, {7, 9}, {4, 4}, {4, 3}, {4, -1}, {4, -1 << 63}} {
		same, ok := r.End(c[0], c[1])
		is(t, fmt.Sprint("End of ", c), []any{same == r, ok}, []any{true, false})
	}
	x := end(t, r, 4, 5)
	is(t, "Find", []any{find(x, 2), find(x, 4), find(x, 6)}, []any{[]any{entry(2, -1), true}, []any{entry(4, 5), true}, []any{entry(6, -1), true}})
	same, ok := x.End(4, 9)
	is(t, "End of what has ended", []any{same == x, ok}, []any{true, false})
	y := end(t, end(t, x, 2, 1<<62), 6, 7)
	is(t, "all", []any{find(y, 2), find(y, 4), find(y, 6)}, []any{[]any{entry(2, 1<<62), true}, []any{entry(4, 5), true}, []any{entry(6, 7), true}})
	var none *roll.Roll
	same, ok = none.End(0, 1)
	is(t, "End of nil", []any{same == nil, ok}, []any{true, false})
}

// P15.3
func TestAsked(t *testing.T) {
	var none *roll.Roll
	is(t, "nil", []any{find(none, 0), len(live(none, 5)), none.Len(5)}, []any{[]any{api.Entry{}, false}, 0, 0})
	r := end(t, add(t, add(t, none, 3), 5), 3, 7)
	for at, want := range map[int][]api.Entry{
		-1: nil, 0: nil, 3: nil, 4: {entry(3, 7)}, 5: {entry(3, 7)}, 6: {entry(3, 7), entry(5, -1)}, 7: {entry(3, 7), entry(5, -1)},
		8: {entry(5, -1)}, 1<<63 - 1: {entry(5, -1)}, -1 << 63: nil,
	} {
		is(t, fmt.Sprint("Live at ", at), live(r, at), want)
		is(t, fmt.Sprint("Len at ", at), r.Len(at), len(want))
	}
	n := 0
	for range r.Live(6) {
		n++
		break
	}
	is(t, "left off", n, 1)
}

// P15.3: what is told is the caller's, and what is kept the roll's
func TestNothingShared(t *testing.T) {
	m := table(3)
	var none *roll.Roll
	r, _ := none.Add(3, m)
	m.Cells[0].Type, m.Cells[0].Rules[0].Left[0].N = 77, 77
	e, _ := r.Find(3)
	e.Table.Cells[0].Type = 77
	for e := range r.Live(9) {
		e.Table.Cells[0].Rules[0].Op = 77
	}
	is(t, "Find", find(r, 3), []any{entry(3, -1), true})
}

// P15.4
func TestStaysWhatItWas(t *testing.T) {
	x := rand.New(rand.NewSource(15))
	rolls := []*roll.Roll{nil}
	told := []string{tell(nil)}
	for range 120 {
		i := x.Intn(len(rolls))
		var next *roll.Roll
		if x.Intn(3) > 0 {
			next, _ = rolls[i].Add(x.Intn(40), table(x.Intn(8)))
		} else {
			next, _ = rolls[i].End(x.Intn(40), x.Intn(60))
		}
		rolls = append(rolls, next)
		told = append(told, tell(next))
		for k, r := range rolls {
			if k%7 == i%7 && tell(r) != told[k] {
				t.Fatalf("roll %d is another one, behind what was done to roll %d", k, i)
			}
		}
	}
	for k, r := range rolls {
		is(t, fmt.Sprint("roll ", k), tell(r), told[k])
	}
}

func tell(r *roll.Roll) string {
	s := ""
	for at := range 62 {
		s += fmt.Sprintf("%d %+v\n", r.Len(at), live(r, at))
	}
	return s
}
