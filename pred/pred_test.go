package pred_test

import (
	"math"
	"testing"

	"sibyl/api"
	"sibyl/pred"
)

func num(n int64) api.Code           { return api.Code{Op: api.Num, N: n} }
func op(n int) api.Code              { return api.Code{Op: n} }
func count(at int) api.Code          { return api.Code{Op: api.Count, At: at} }
func field(at, n int) api.Code       { return api.Code{Op: api.Field, At: at, Field: n} }
func row(l ...api.Code) []api.Code   { return l }
func event(l ...int64) (e api.Event) { copy(e.Nums[:], l); return e }

var sets = [][]api.Event{
	{event(6, -7, 8, 9)},
	{event(1, 2, 3, 4), event(10, 20, 30, 40)},
	{},
}

const (
	least = math.MinInt64
	most  = math.MaxInt64
)

// P5.1
func TestReckoned(t *testing.T) {
	for _, c := range []struct {
		want int64
		l    []api.Code
	}{
		{5, row(num(5))},
		{-5, row(num(-5))},
		{6, row(field(0, 0))}, {-7, row(field(0, 1))}, {8, row(field(0, 2))}, {9, row(field(0, 3))},
		{30, row(field(1, 2))},
		{1, row(count(0))}, {2, row(count(1))}, {0, row(count(2))}, {0, row(count(3))}, {0, row(count(-1))}, {0, row(count(most))}, {0, row(count(least))},
		{1, row(field(0, 0), num(4), op(api.Div))},
		{2, row(field(0, 0), num(4), op(api.Rem))},
		{2, row(field(0, 0), num(4), op(api.Sub))},
		{-3, row(num(3), op(api.Neg))},
		{3, row(num(3), op(api.Neg), op(api.Neg))},
		{least, row(num(least), op(api.Neg))},
		{least, row(num(most), num(1), op(api.Add))},
		{-9, row(num(1), num(2), op(api.Add), num(3), op(api.Neg), op(api.Mul))},
		{-4, row(num(1), num(2), num(3), op(api.Add), op(api.Sub))},
		{-1, row(num(1), num(2), op(api.Neg), op(api.Add))},
		// what else a code has plays no part
		{4, row(api.Code{Op: api.Num, N: 4, Var: "?", Field: 9, At: -2})},
		{1, row(api.Code{Op: api.Count, N: 4, Var: "?", Field: 9})},
		{3, row(num(1), num(2), api.Code{Op: api.Add, N: 4, Field: 9, At: 77})},
	} {
		if got, ok := pred.Eval(c.l, sets); got != c.want || !ok {
			t.Errorf("Eval(%v): %d, %v, want %d", c.l, got, ok, c.want)
		}
	}
}

// P5.1
func TestNotReckoned(t *testing.T) {
	for _, l := range [][]api.Code{
		nil,
		row(num(1), num(2)),
		row(op(api.Neg)), row(op(api.Add)), row(num(1), op(api.Add)), row(num(1), op(api.Rem)),
		row(num(1), op(api.Add), num(2)),
		row(num(1), num(0), op(api.Div)), row(num(1), num(0), op(api.Rem)),
		row(num(1), num(0), op(api.Div), op(api.Neg)),
		row(num(1), field(0, 0), num(6), op(api.Sub), op(api.Rem)),
		row(field(2, 0)), row(field(3, 0)), row(field(-1, 0)), row(field(most, 0)), row(field(least, 0)),
		row(field(0, 4)), row(field(0, -1)), row(field(0, most)), row(field(0, least)),
		row(op(0)), row(num(1), op(0)), row(num(1), op(10)), row(num(1), op(-1)), row(num(1), num(1), op(10)),
		row(num(1), op(most)),
	} {
		if got, ok := pred.Eval(l, sets); got != 0 || ok {
			t.Errorf("Eval(%v): %d, %v, want nothing", l, got, ok)
		}
	}
	if got, ok := pred.Eval(row(field(0, 0)), nil); got != 0 || ok {
		t.Errorf("Eval of no sets: %d, %v", got, ok)
	}
	if got, ok := pred.Eval(row(count(0)), nil); got != 0 || !ok {
		t.Errorf("Eval of no sets counts: %d, %v", got, ok)
	}
}

func rule(op int, left, right []api.Code) api.Rule { return api.Rule{Op: op, Left: left, Right: right} }

// P5.2
func TestHeld(t *testing.T) {
	for op, want := range map[int][3]bool{
		// of 6 against 5, 6, 7
		api.Eq: {false, true, false}, api.Ne: {true, false, true}, api.Lt: {false, false, true}, api.Le: {false, true, true},
		api.Gt: {true, false, false}, api.Ge: {true, true, false}, 0: {}, 7: {}, -1: {},
	} {
		for i, w := range want {
			if pred.Holds(rule(op, row(field(0, 0)), row(num(int64(5+i)))), sets) != w {
				t.Errorf("6 by %d to %d: not %v", op, 5+i, w)
			}
		}
	}
	for _, r := range []api.Rule{
		rule(api.Eq, nil, nil), rule(api.Eq, row(num(0)), nil), rule(api.Eq, nil, row(num(0))),
		rule(api.Eq, row(field(2, 0)), row(num(0))), rule(api.Ne, row(num(0)), row(field(2, 0))),
	} {
		if pred.Holds(r, sets) {
			t.Errorf("%v holds", r)
		}
	}
}

// P5.2
func TestAllHeld(t *testing.T) {
	yes := rule(api.Eq, row(num(1)), row(count(0)))
	no := rule(api.Eq, row(num(2)), row(count(0)))
	for _, c := range []struct {
		want bool
		l    []api.Rule
	}{
		{true, nil}, {true, []api.Rule{yes}}, {false, []api.Rule{no}}, {true, []api.Rule{yes, yes}},
		{false, []api.Rule{no, yes}}, {false, []api.Rule{yes, no}}, {false, []api.Rule{yes, no, yes}},
	} {
		if pred.All(c.l, sets) != c.want {
			t.Errorf("All of %d rules: not %v", len(c.l), c.want)
		}
	}
}

// P5.3
func TestNeitherHolds(t *testing.T) {
	for _, by := range []int{api.Div, api.Rem} {
		l := row(num(1), field(0, 0), num(6), op(api.Sub), op(by))
		for _, pair := range [][2]int{{api.Eq, api.Ne}, {api.Lt, api.Ge}, {api.Le, api.Gt}} {
			for _, op := range pair {
				if pred.Holds(rule(op, l, row(num(0))), sets) || pred.Holds(rule(op, row(num(0)), l), sets) {
					t.Errorf("a rule that divides by 0 holds, by %d", op)
				}
			}
		}
	}
}
