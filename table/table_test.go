package table_test

import (
	"fmt"
	"testing"

	"sibyl/api"
	"sibyl/query"
	"sibyl/table"
)

func parse(t *testing.T, s string) api.Query {
	t.Helper()
	q, at, err := query.Parse(s)
	if err != api.OK {
		t.Fatalf("%q: %d at %d", s, err, at)
	}
	return q
}

func made(t *testing.T, s string) api.Table {
	t.Helper()
	m, err := table.Make(parse(t, s))
	if err != api.OK {
		t.Fatalf("%q: %d", s, err)
	}
	return m
}

func is(t *testing.T, what string, got, want any) {
	t.Helper()
	if g, w := fmt.Sprintf("%+v", got), fmt.Sprintf("%+v", want); g != w {
		t.Errorf("%s: %s, want %s", what, g, w)
	}
}

func field(name string, at, n int) []api.Code {
	return []api.Code{{Op: api.Field, Var: name, At: at, Field: n}}
}

func num(n int64) []api.Code { return []api.Code{{Op: api.Num, N: n}} }

// P7.1
func TestMade(t *testing.T) {
	is(t, "one", made(t, "seq A a within 1"), api.Table{Cells: []api.Cell{{}}, Window: 1})
	is(t, "with a guard", made(t, "seq A a, !B b, C+ c where b.x > a.x within 4"), api.Table{
		Cells: []api.Cell{
			{Nots: []api.Guard{{Type: 1, Rules: []api.Rule{{Op: api.Gt, Left: field("b", 2, 0), Right: field("a", 0, 0)}}}}},
			{Type: 2, Plus: true},
		},
		Window: 4,
	})
	s := "seq H+ h, !B b, !C c, E+ e, !F f, G g where f.w = e.y and c.x = 1 and #e > 2 and g.x = e.x and b.x = h.x and 1 = 2 within 8 by key"
	is(t, "with many", made(t, s), api.Table{
		Cells: []api.Cell{
			{
				Type: 7, Plus: true, Rules: []api.Rule{{Op: api.Eq, Left: num(1), Right: num(2)}},
				Nots: []api.Guard{
					{Type: 1, Rules: []api.Rule{{Op: api.Eq, Left: field("b", 3, 0), Right: field("h", 0, 0)}}},
					{Type: 2, Rules: []api.Rule{{Op: api.Eq, Left: field("c", 3, 0), Right: num(1)}}},
				},
			},
			{
				Type: 4, Plus: true, Rules: []api.Rule{{Op: api.Gt, Left: []api.Code{{Op: api.Count, Var: "e", At: 1}}, Right: num(2)}},
				Nots: []api.Guard{{Type: 5, Rules: []api.Rule{{Op: api.Eq, Left: field("f", 3, 3), Right: field("e", 1, 1)}}}},
			},
			{Type: 6, Rules: []api.Rule{{Op: api.Eq, Left: field("g", 2, 0), Right: field("e", 1, 0)}}},
		},
		Window: 8, ByKey: true,
	})
}

// P7.1
func TestNotMade(t *testing.T) {
	for s, want := range map[string]api.Errno{
		"seq A a within 9":                     api.ErrLimit,
		"seq A a, B a within 2":                api.ErrName,
		"seq !A a, B b within 3":               api.ErrPlace,
		"seq A a where #a = 1 within 3 by key": api.ErrPlace,
	} {
		m, err := table.Make(parse(t, s))
		is(t, s, err, want)
		is(t, s, m, api.Table{})
	}
	m, err := table.Make(api.Query{Window: 3, ByKey: true})
	is(t, "nothing", err, api.ErrArg)
	is(t, "nothing", m, api.Table{})
}

// P7.1: what was handed in, and what was told, share nothing
func TestMadeAnew(t *testing.T) {
	q := parse(t, "seq A a, B b where b.x > 1 within 4")
	before := fmt.Sprintf("%+v", q)
	m, _ := table.Make(q)
	m.Cells[1].Rules[0].Left[0].At = 77
	m.Cells[1].Rules[0].Right[0].N = 77
	is(t, "the query", fmt.Sprintf("%+v", q), before)
	again, _ := table.Make(q)
	is(t, "made again", again.Cells[1].Rules[0].Left[0].At, 1)
}

const guarded = "seq A+ a, !B b, C c, D d where b.x = #a and c.x = a.x and d.x = c.x and d.y = 5 within 4"

// P7.2
func TestRight(t *testing.T) {
	for _, s := range []string{guarded, "seq A a within 1", "seq A a, A b, A c, A d, A e, A f within 8 by key"} {
		is(t, s, table.Right(made(t, s)), true)
	}
	for what, change := range map[string]func(m *api.Table){
		"guard's of its own cell":   func(m *api.Table) { m.Cells[0].Nots[0].Rules[0].Left[0].At = 0 },
		"guard's own":               func(m *api.Table) { m.Cells[0].Nots[0].Rules[0].Right[0].At = 3 },
		"number that has an At":     func(m *api.Table) { m.Cells[2].Rules[1].Right[0].At = 99 },
		"code that is none":         func(m *api.Table) { m.Cells[2].Rules[1].Right[0].Op = 99 },
		"rule without codes":        func(m *api.Table) { m.Cells[2].Rules[1].Right = nil },
		"field that is none":        func(m *api.Table) { m.Cells[2].Rules[1].Left[0].Field = 99 },
		"less than that may be":     func(m *api.Table) { m.Cells[2].Rules[0].Left[0].At = 0 },
		"op 6":                      func(m *api.Table) { m.Cells[2].Rules[0].Op = 6 },
		"op 1 of a guard":           func(m *api.Table) { m.Cells[0].Nots[0].Rules[0].Op = 1 },
		"window 1":                  func(m *api.Table) { m.Window = 1 },
		"window 8":                  func(m *api.Table) { m.Window = 8 },
		"guard between other cells": func(m *api.Table) { m.Cells[1].Nots = []api.Guard{{Type: 7}} },
	} {
		m := made(t, guarded)
		change(&m)
		is(t, what, table.Right(m), true)
	}
}

// P7.2
func TestNotRight(t *testing.T) {
	for n, want := range []bool{false, true, true, true, true, true, true, false, false} {
		is(t, fmt.Sprint("cells: ", n), table.Right(api.Table{Cells: make([]api.Cell, n), Window: 3}), want)
	}
	for what, spoil := range map[string]func(m *api.Table){
		"window 0":            func(m *api.Table) { m.Window = 0 },
		"window 9":            func(m *api.Table) { m.Window = 9 },
		"window -1":           func(m *api.Table) { m.Window = -1 },
		"seven cells":         func(m *api.Table) { m.Cells = append(m.Cells, make([]api.Cell, 4)...) },
		"type 8":              func(m *api.Table) { m.Cells[1].Type = 8 },
		"type -1":             func(m *api.Table) { m.Cells[2].Type = -1 },
		"guard's type 8":      func(m *api.Table) { m.Cells[0].Nots[0].Type = 8 },
		"guard's type -1":     func(m *api.Table) { m.Cells[0].Nots[0].Type = -1 },
		"op 0":                func(m *api.Table) { m.Cells[2].Rules[1].Op = 0 },
		"op 7":                func(m *api.Table) { m.Cells[2].Rules[0].Op = 7 },
		"guard's op 0":        func(m *api.Table) { m.Cells[0].Nots[0].Rules[0].Op = 0 },
		"at behind":           func(m *api.Table) { m.Cells[1].Rules[0].Left[0].At = 2 },
		"at on the right":     func(m *api.Table) { m.Cells[1].Rules[0].Right[0].At = 2 },
		"at the number":       func(m *api.Table) { m.Cells[1].Rules[0].Left[0].At = 3 },
		"at -1":               func(m *api.Table) { m.Cells[1].Rules[0].Left[0].At = -1 },
		"guard's at behind":   func(m *api.Table) { m.Cells[0].Nots[0].Rules[0].Left[0].At = 1 },
		"guard's at above":    func(m *api.Table) { m.Cells[0].Nots[0].Rules[0].Left[0].At = 4 },
		"guard's count":       func(m *api.Table) { m.Cells[0].Nots[0].Rules[0].Right[0].At = 2 },
		"guard's at -1":       func(m *api.Table) { m.Cells[0].Nots[0].Rules[0].Left[0].At = -1 },
		"a guard of the last": func(m *api.Table) { m.Cells[2].Nots = []api.Guard{{}} },
	} {
		m := made(t, guarded)
		spoil(&m)
		is(t, what, table.Right(m), false)
	}
}

// P7.3
func TestMadeIsRight(t *testing.T) {
	for _, s := range []string{
		guarded, "seq A a within 1",
		"seq A a, !B b, !C c, D+ d, !E e, F f where e.x = d.x and #d = 2 and f.x = 1 and c.x = 2 and 1 = 1 and b.y = b.x within 8 by key",
	} {
		m := made(t, s)
		n := 0
		for _, c := range m.Cells {
			n += len(c.Rules)
			for _, g := range c.Nots {
				n += len(g.Rules)
			}
		}
		is(t, s, table.Right(m), true)
		is(t, s, n, len(parse(t, s).Conds))
	}
}
