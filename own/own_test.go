package own_test

import (
	"fmt"
	"testing"

	"sibyl/api"
	"sibyl/own"
)

// anew holds a copy against what it is a copy of, ahead of the copy's being spoilt, and behind.
func anew[T any](t *testing.T, x T, copied func(T) T, spoil func(T)) {
	t.Helper()
	before := fmt.Sprintf("%+v", x)
	fresh := copied(x)
	if got := fmt.Sprintf("%+v", fresh); got != before {
		t.Errorf("%s, want %s", got, before)
	}
	spoil(fresh)
	if after := fmt.Sprintf("%+v", x); after != before {
		t.Errorf("it was %s, and is %s", before, after)
	}
}

func TestCopies(t *testing.T) {
	codes := func() []api.Code { return []api.Code{{Op: api.Num, N: 1}, {Op: api.Neg}} }
	rules := func() []api.Rule { return []api.Rule{{Op: 1, Left: codes(), Right: codes()}} }
	table := api.Table{
		Cells:  []api.Cell{{Type: 1, Plus: true, Rules: rules(), Nots: []api.Guard{{Type: 2, Rules: rules()}}}},
		Window: 3, ByKey: true,
	}
	spoil := func(m api.Table) {
		for _, r := range append(m.Cells[0].Rules, m.Cells[0].Nots[0].Rules...) {
			r.Left[0].N, r.Right[1].N = 9, 9
		}
		m.Cells[0].Rules[0].Op, m.Cells[0].Nots[0].Rules[0].Op, m.Cells[0].Nots[0].Type, m.Cells[0].Type = 9, 9, 9, 9
	}
	anew(t, table, own.Table, spoil)
	anew(t, api.Command{Kind: 2, ID: 3, N: 4, Event: api.Event{Key: 5}, Ref: api.Ref{Slot: 6}, Table: table}, own.Command, func(c api.Command) { spoil(c.Table) })
	found := api.Found{Sets: [][]int{{1, 2}, {3}}, Refs: []api.Ref{{Slot: 1}, {Slot: 2}}}
	out := api.Out{Hits: []api.Hit{{ID: 7, Found: found}}, Lost: []int{8}, Ups: []api.Ref{{Slot: 9}}, Downs: []api.Ref{{Gen: 9}}}
	ruin := func(o api.Out) {
		o.Lost[0], o.Ups[0].Slot, o.Downs[0].Slot = 77, 77, 77
		o.Hits[0].Found.Sets[0][1], o.Hits[0].Found.Refs[1].Gen, o.Hits[0].ID = 77, 77, 77
	}
	anew(t, out, own.Out, ruin)
	anew(t, found, own.Found, func(f api.Found) { f.Sets[1] = nil })
	anew(t, api.Answer{Err: 1, N: 2, Matches: [][][]int{{{1}, {2, 3}}}}, own.Answer, func(a api.Answer) { a.Matches[0][1][1] = 77 })
	anew(t, [][][]int{{{1}}, nil}, own.Matches, func(l [][][]int) { l[0][0] = nil })
	anew(t, api.Table{}, own.Table, func(api.Table) {})
}
