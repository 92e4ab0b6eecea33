package check_test

import (
	"fmt"
	"strings"
	"testing"

	"sibyl/api"
	"sibyl/check"
	"sibyl/query"
)

func parse(t *testing.T, s string) api.Query {
	t.Helper()
	q, at, err := query.Parse(s)
	if err != api.OK {
		t.Fatalf("%q: %d at %d", s, err, at)
	}
	return q
}

func is(t *testing.T, what string, got, want any) {
	t.Helper()
	if g, w := fmt.Sprintf("%+v", got), fmt.Sprintf("%+v", want); g != w {
		t.Errorf("%s: %s, want %s", what, g, w)
	}
}

// P4.1
func TestChecked(t *testing.T) {
	for s, want := range map[string]api.Errno{
		"seq A a within 1":                                                  api.OK,
		"seq A+ a within 8 by key":                                          api.OK,
		"seq A a, A b, A c, A d, A e, A f within 8":                         api.OK,
		"seq A a, !B b, C+ c where b.x > a.x and #c > 1 and 1 = 1 within 4": api.OK,
		"seq A abcdefgh within 1":                                           api.OK,
		"seq A a, !B b, !C c, D d within 3":                                 api.OK,
		"seq A+ a, !B b, C c where b.x < #a within 3":                       api.OK,

		"seq A a, A b, A c, A d, A e, A f, A g within 8": api.ErrLimit,
		"seq A a within 0":         api.ErrLimit,
		"seq A a within 9":         api.ErrLimit,
		"seq A abcdefghi within 1": api.ErrLimit,
		"seq A a where " + strings.Repeat("1 = 1 and ", 8) + "1 = 1 within 1": api.ErrLimit,
		"seq A a where " + strings.Repeat("1 = 1 and ", 7) + "1 = 1 within 1": api.OK,
		"seq A a where " + strings.Repeat("1 + ", 16) + "1 = 1 within 1":      api.ErrLimit,
		"seq A a where 1 = " + strings.Repeat("1 + ", 16) + "1 within 1":      api.ErrLimit,
		"seq A a where -(" + strings.Repeat("1 + ", 15) + "1) = 1 within 1":   api.OK,
		"seq A a where 1 = -(" + strings.Repeat("1 + ", 15) + "1) within 1":   api.OK,
		"seq A a where --(" + strings.Repeat("1 + ", 15) + "1) = 1 within 1":  api.ErrLimit,

		"seq A a, B a within 2":                     api.ErrName,
		"seq A a, B b, C c, B b within 2":           api.ErrName,
		"seq A a where b.x = 1 within 2":            api.ErrName,
		"seq A a where a.x = 1 and 1 = #b within 2": api.ErrName,
		"seq A a where abcdefghi.x = 1 within 2":    api.ErrName,

		"seq !A a, B b within 3":                                       api.ErrPlace,
		"seq A a, !B b within 3":                                       api.ErrPlace,
		"seq !A a within 3":                                            api.ErrPlace,
		"seq A a, !B+ b, C c within 3":                                 api.ErrPlace,
		"seq A a where #a = 1 within 3":                                api.ErrPlace,
		"seq A+ a, B b where #a = #b within 3":                         api.ErrPlace,
		"seq A a, !B b, C c where #b = 1 within 3":                     api.ErrPlace,
		"seq A a, !B b, !C c, D d where b.x = c.x within 3":            api.ErrPlace,
		"seq A a, !B b, C c where b.x = c.x within 3":                  api.ErrPlace,
		"seq A a, !B b, C c where c.x = 1 and 1 + c.y = b.x within 3":  api.ErrPlace,
		"seq A a, !B b, C c where a.x = b.x and b.y = b.x within 3":    api.OK,
		"seq A a, !B b, C c, !D d, E e where c.x = d.x + a.z within 3": api.OK,
		"seq A a, !B b, C c, !D d, E e where d.x = b.x within 3":       api.ErrPlace,

		// of several the first one
		"seq !A a, B a within 9":               api.ErrLimit,
		"seq !A a, B a within 8":               api.ErrName,
		"seq !A a, B b where c.x = 1 within 8": api.ErrName,
	} {
		is(t, s, check.Check(parse(t, s)), want)
	}
}

// P4.1
func TestNothingThatMayBe(t *testing.T) {
	is(t, "the zero query", check.Check(api.Query{}), api.ErrArg)
	q := parse(t, "seq A a where a.x = 1 within 1")
	q.Conds[0].Op = 7
	is(t, "an op 7", check.Check(q), api.ErrArg)
	q.Window = 100
	is(t, "an op 7 within 100", check.Check(q), api.ErrArg)
	q = parse(t, "seq !A a, B a within 9")
	q.Elems[0].Type = -1
	is(t, "a type -1", check.Check(q), api.ErrArg)
	q = parse(t, "seq A a within 1")
	q.Window = -1
	is(t, "a window -1", check.Check(q), api.ErrArg)
	q.Window = 1 << 62
	is(t, "a great window", check.Check(q), api.ErrLimit)
}

// P4.2
func TestNames(t *testing.T) {
	q := parse(t, "seq A a where c.x + #b - c.y = a.z * b.x + 1 + d.x within 1")
	is(t, "Names", check.Names(q.Conds[0]), []string{"c", "b", "a", "d"})
	is(t, "Names of none", len(check.Names(api.Cond{})), 0)
	c := api.Cond{
		Left:  []api.Code{{Op: api.Num, Var: "no"}, {Op: 77, Var: "no"}, {Op: api.Neg, Var: "no"}},
		Right: []api.Code{{Op: api.Count, Var: "A b"}, {Op: api.Field}, {Op: api.Field, Var: "A b", Field: 9}},
	}
	is(t, "Names of what may not be", check.Names(c), []string{"A b", ""})
}

// P4.3
func TestPlaces(t *testing.T) {
	q := parse(t, "seq A a, !B b, C+ c, D d where b.x < a.x and a.x = c.x and d.x = a.y and 1 = 2 and #c > a.z and a.w = 5 + 1 within 3")
	for i, want := range []int{1, 2, 3, 0, 2, 0} {
		is(t, fmt.Sprint("Place of ", i), check.Place(q, q.Conds[i]), want)
	}
	r := check.Rules(q)
	is(t, "how many", []int{len(r), len(r[0]), len(r[1]), len(r[2]), len(r[3])}, []int{4, 2, 1, 2, 1})
	is(t, "the first one's", r[0], []api.Rule{
		{Op: api.Eq, Left: []api.Code{{Op: api.Num, N: 1}}, Right: []api.Code{{Op: api.Num, N: 2}}},
		{Op: api.Eq, Left: []api.Code{{Op: api.Field, Var: "a", Field: 3}}, Right: []api.Code{{Op: api.Num, N: 5}, {Op: api.Num, N: 1}, {Op: api.Add}}},
	})
	is(t, "the Not's", r[1], []api.Rule{
		{Op: api.Lt, Left: []api.Code{{Op: api.Field, Var: "b", At: 1}}, Right: []api.Code{{Op: api.Field, Var: "a"}}},
	})
	is(t, "the third one's", r[2], []api.Rule{
		{Op: api.Eq, Left: []api.Code{{Op: api.Field, Var: "a"}}, Right: []api.Code{{Op: api.Field, Var: "c", At: 2}}},
		{Op: api.Gt, Left: []api.Code{{Op: api.Count, Var: "c", At: 2}}, Right: []api.Code{{Op: api.Field, Var: "a", Field: 2}}},
	})
	is(t, "the query", q.Conds[1].Right[0].At, 0)
	r[0][0].Left[0].N = 99
	is(t, "the query, behind", q.Conds[3].Left[0].N, 1)
}

// P4.3
func TestNoPlaces(t *testing.T) {
	for _, s := range []string{"seq !A a, B b where b.x = 1 within 3", "seq A a where a.x = 1 within 9", "seq A a where a.x = b.x within 1"} {
		q := parse(t, s)
		is(t, "Place: "+s, check.Place(q, q.Conds[0]), -1)
		is(t, "Rules: "+s, len(check.Rules(q)), 0)
	}
	is(t, "Place of nothing", check.Place(api.Query{}, api.Cond{}), -1)
	is(t, "Rules of nothing", len(check.Rules(api.Query{})), 0)
}

// P4.4
func TestEachRuleOnce(t *testing.T) {
	for _, s := range []string{
		"seq A a, !B b, C+ c, D d where b.x < a.x and a.x = c.x and d.x = a.y and 1 = 2 and #c > a.z and a.w = 5 within 3",
		"seq A a within 2",
		"seq A+ a, B+ b, !C c, !D d, E e where c.x = #a + #b and d.y = a.x and e.x = b.y and b.x = a.x within 8",
	} {
		q := parse(t, s)
		n := 0
		for at, rules := range check.Rules(q) {
			n += len(rules)
			for _, r := range rules {
				for _, c := range append(append([]api.Code{}, r.Left...), r.Right...) {
					if c.At > at {
						t.Errorf("%s: a rule of %d names %d", s, at, c.At)
					}
				}
			}
		}
		is(t, s, n, len(q.Conds))
	}
}
