package query_test

import (
	"fmt"
	"math/rand"
	"strings"
	"testing"

	"sibyl/api"
	"sibyl/lex"
	"sibyl/query"
)

func num(n int64) api.Code       { return api.Code{Op: api.Num, N: n} }
func count(name string) api.Code { return api.Code{Op: api.Count, Var: name} }
func field(name string, letter int) api.Code {
	return api.Code{Op: api.Field, Var: name, Field: letter}
}
func ops(l ...int) (codes []api.Code) {
	for _, op := range l {
		codes = append(codes, api.Code{Op: op})
	}
	return codes
}

func one(left ...api.Code) api.Query {
	return api.Query{
		Elems:  []api.Elem{{Var: "a"}},
		Conds:  []api.Cond{{Op: api.Eq, Left: left, Right: []api.Code{num(0)}}},
		Window: 1,
	}
}

func parses(t *testing.T, s string, want api.Query) {
	t.Helper()
	q, at, err := query.Parse(s)
	if g, w := fmt.Sprintf("%+v", q), fmt.Sprintf("%+v", want); g != w || at != len(s) || err != api.OK {
		t.Errorf("Parse(%q): %s, %d, %d, want %s", s, g, at, err, w)
	}
}

func refuses(t *testing.T, s string, place int, why api.Errno) {
	t.Helper()
	q, at, err := query.Parse(s)
	if len(q.Elems) != 0 || len(q.Conds) != 0 || q.Window != 0 || q.ByKey || at != place || err != why {
		t.Errorf("Parse(%q): %v, %d, %d, want none, %d, %d", s, q, at, err, place, why)
	}
}

// P3.1
func TestParsed(t *testing.T) {
	parses(t, "seq A a within 3", api.Query{Elems: []api.Elem{{Var: "a"}}, Window: 3})
	parses(t, " seq !H h,B + b2,!C+x within 0 by key\n", api.Query{
		Elems:  []api.Elem{{Type: 7, Var: "h", Not: true}, {Type: 1, Var: "b2", Plus: true}, {Type: 2, Var: "x", Plus: true, Not: true}},
		ByKey:  true,
		Window: 0,
	})
	parses(t, "seq A a,B+b where (a.x)-1<#b and b.w!=2 within 5", api.Query{
		Elems: []api.Elem{{Var: "a"}, {Type: 1, Var: "b", Plus: true}},
		Conds: []api.Cond{
			{Op: api.Lt, Left: append([]api.Code{field("a", 0), num(1)}, ops(api.Sub)...), Right: []api.Code{count("b")}},
			{Op: api.Ne, Left: []api.Code{field("b", 3)}, Right: []api.Code{num(2)}},
		},
		Window: 5,
	})
	for i, op := range []string{"=", "!=", "<", "<=", ">", ">="} {
		q := one(field("a", 1))
		q.Conds[0].Op = i + 1
		parses(t, "seq A a where a.y "+op+" 0 within 1", q)
	}
}

// P3.1
func TestReckoned(t *testing.T) {
	for text, want := range map[string][]api.Code{
		"1 - 2 - 3":            append(append([]api.Code{num(1), num(2)}, ops(api.Sub)...), append([]api.Code{num(3)}, ops(api.Sub)...)...),
		"1 - (2 - 3)":          append([]api.Code{num(1), num(2), num(3)}, ops(api.Sub, api.Sub)...),
		"1 + 2 * 3":            append([]api.Code{num(1), num(2), num(3)}, ops(api.Mul, api.Add)...),
		"1 * 2 / 3":            append(append([]api.Code{num(1), num(2)}, ops(api.Mul)...), append([]api.Code{num(3)}, ops(api.Div)...)...),
		"1 % 2 + 3":            append(append([]api.Code{num(1), num(2)}, ops(api.Rem)...), append([]api.Code{num(3)}, ops(api.Add)...)...),
		"- 1 * 2":              {num(1), {Op: api.Neg}, num(2), {Op: api.Mul}},
		"1 - -2":               {num(1), num(2), {Op: api.Neg}, {Op: api.Sub}},
		"--#a":                 {count("a"), {Op: api.Neg}, {Op: api.Neg}},
		"-(a.x + w.z)":         append([]api.Code{field("a", 0), field("w", 2)}, ops(api.Add, api.Neg)...),
		"((7))":                {num(7)},
		"x.x + y.y":            append([]api.Code{field("x", 0), field("y", 1)}, ops(api.Add)...),
		"-9223372036854775807": {num(1<<63 - 1), {Op: api.Neg}},
	} {
		parses(t, "seq A a where "+text+" = 0 within 1", one(want...))
	}
}

// P3.1
func TestNotParsed(t *testing.T) {
	for _, c := range []struct {
		s  string
		at int
	}{
		{"", 0}, {"  ", 2}, {"seq", 3}, {"seq A", 5}, {"seq A ", 6}, {"A a", 0}, {"sequ A a", 0},
		{"seq a", 4}, {"seq A A", 6}, {"seq A by within 1", 6}, {"seq A a B b", 8}, {"seq A a, within 1", 9},
		{"seq A a", 7}, {"seq A a within", 14}, {"seq A a within a", 15}, {"seq A a within -1", 15},
		{"seq A a within 1 by", 19}, {"seq A a within 1 key", 17}, {"seq A a within 1 by key key", 24},
		{"seq A a within 1 where 1 = 1", 17}, {"seq A a where within 1", 14}, {"seq A a where 1 within 1", 16},
		{"seq A a where 1 = 1 and within 1", 24}, {"seq A a where 1 = 1 = 1 within 1", 20},
		{"seq A a where 1 ! 1 within 1", 16}, {"seq A a where (1 = 1) within 1", 17}, {"seq A a where (1 + 2 = 1 within 1", 21},
		{"seq A a where a = 1 within 1", 16}, {"seq A a where a.a = 1 within 1", 16}, {"seq A a where a.within = 1", 16},
		{"seq A a where #1 = 1 within 1", 15}, {"seq A a where #and = 1 within 1", 15}, {"seq A a where seq.x = 1 within 1", 14},
		{"seq A a where 1 + = 1 within 1", 18}, {"seq A a where +1 = 1 within 1", 14}, {"seq A a where 1 2", 16},
		{"seq + A a within 1", 4}, {"seq !! A a within 1", 5}, {"seq A ++ a within 1", 7}, {"seq A ! a within 1", 6},
		{"seq A a where A = 1 within 1", 14}, {"seq A a where 1 < > 1 within 1", 18},
	} {
		refuses(t, c.s, c.at, api.ErrSyntax)
	}
	refuses(t, "seq A a ? within 1", 8, api.ErrLex)
	refuses(t, "what ever ?", 10, api.ErrLex)
	refuses(t, strings.Repeat("a ", 201), 400, api.ErrLimit)
	refuses(t, strings.Repeat("a ", 200), 0, api.ErrSyntax)
}

// P3.1
func TestNested(t *testing.T) {
	head, tail := "seq A a where ", " = 0 within 1"
	deep := func(open string, n int, shut string) string {
		return head + strings.Repeat(open, n) + "1" + strings.Repeat(shut, n) + tail
	}
	parses(t, deep("(", 16, ")"), one(num(1)))
	refuses(t, deep("(", 17, ")"), len(head)+16, api.ErrLimit)
	parses(t, deep("-", 16, ""), one(append([]api.Code{num(1)}, ops(9, 9, 9, 9, 9, 9, 9, 9, 9, 9, 9, 9, 9, 9, 9, 9)...)...))
	refuses(t, deep("-", 17, ""), len(head)+16, api.ErrLimit)
	refuses(t, deep("-(", 9, ")"), len(head)+16, api.ErrLimit)
	refuses(t, deep("(-", 9, ")"), len(head)+16, api.ErrLimit)
	// what was met first is told
	refuses(t, head+"1 1 "+strings.Repeat("(", 20), len(head)+2, api.ErrSyntax)
	refuses(t, head+strings.Repeat("(", 20)+"1 1", len(head)+16, api.ErrLimit)
	refuses(t, head+strings.Repeat("(", 16)+"+", len(head)+16, api.ErrSyntax)
	// what stands side by side does not nest
	for _, s := range []string{strings.Repeat("(1) - ", 20) + "1", strings.Repeat("-1 * ", 20) + "1", "1" + strings.Repeat(" - -1", 20)} {
		if _, at, err := query.Parse(head + s + tail); err != api.OK {
			t.Errorf("Parse of %q: %d, %d", s, at, err)
		}
	}
	refuses(t, head+"(((1))) + "+strings.Repeat("(", 17), len(head)+10+16, api.ErrLimit)
}

// P3.2
func TestPrinted(t *testing.T) {
	for s, want := range map[string]string{
		"seq A a,B+b where (a.x)-1<#b within 5":        "seq A a, B+ b where a.x - 1 < #b within 5",
		"seq !A a , ! C+c within 007 by key":           "seq !A a, !C+ c within 7 by key",
		"seq H h where 1=2 and 3!=4 and 5>=6 within 0": "seq H h where 1 = 2 and 3 != 4 and 5 >= 6 within 0",
	} {
		q, _, _ := query.Parse(s)
		if got := query.Print(q); got != want {
			t.Errorf("Print of %q: %q, want %q", s, got, want)
		}
	}
	for _, s := range []string{
		"1", "a.x", "a.y + a.z * a.w", "#a", "-1", "--1", "-a.x", "-(1 + 2)", "-(1 * 2)", "-(1 % 2)", "-1 * 2", "-1 - 2", "1 - -2", "1 * -2",
		"1 + 2 + 3", "1 - 2 + 3", "1 + (2 + 3)", "1 - (2 - 3)", "1 * 2 * 3", "1 * (2 * 3)", "1 / (2 % 3)", "1 % 2 / 3",
		"1 * 2 + 3", "1 + 2 * 3", "(1 + 2) * 3", "1 * (2 + 3)", "(1 - 2) % (3 + 4)", "(1 + 2) / 3 - 4", "-(-(1 + 2) * 3)", "-(1 - 2) * 3",
		"1 - (2 + 3 * 4)", "1 - 2 * (3 + 4) / (5 * 6)",
	} {
		text := "seq A a where " + s + " = " + s + " within 1"
		q, _, _ := query.Parse(text)
		if got := query.Print(q); got != text {
			t.Errorf("Print of %q: %q", text, got)
		}
	}
	for s, want := range map[string]string{
		"(1)": "1", "(1 + 2) + 3": "1 + 2 + 3", "1 + (2 * 3)": "1 + 2 * 3", "(1 * 2) * 3": "1 * 2 * 3", "-(1)": "-1", "(-1) * 2": "-1 * 2",
		"1 - (-2)": "1 - -2", "((1 + 2)) * 3": "(1 + 2) * 3", "(1 * 2) - (3 / 4)": "1 * 2 - 3 / 4", "-(#a)": "-#a", "-(-(1))": "--1",
	} {
		q, _, _ := query.Parse("seq A a where " + s + " = 0 within 1")
		if got, want := query.Print(q), "seq A a where "+want+" = 0 within 1"; got != want {
			t.Errorf("Print of %q: %q, want %q", s, got, want)
		}
	}
}

// P3.2
func TestNotPrinted(t *testing.T) {
	for what, spoil := range map[string]func(q *api.Query){
		"no elements":                      func(q *api.Query) { q.Elems = nil },
		"type 8":                           func(q *api.Query) { q.Elems[0].Type = 8 },
		"type -1":                          func(q *api.Query) { q.Elems[0].Type = -1 },
		"no var":                           func(q *api.Query) { q.Elems[0].Var = "" },
		"keyword":                          func(q *api.Query) { q.Elems[0].Var = "seq" },
		"capital":                          func(q *api.Query) { q.Elems[0].Var = "A" },
		"blank":                            func(q *api.Query) { q.Elems[0].Var = "a " },
		"op 0":                             func(q *api.Query) { q.Conds[0].Op = 0 },
		"op 7":                             func(q *api.Query) { q.Conds[0].Op = 7 },
		"op -1":                            func(q *api.Query) { q.Conds[0].Op = -1 },
		"left":                             func(q *api.Query) { q.Conds[0].Left = nil },
		"right":                            func(q *api.Query) { q.Conds[0].Right = ops(api.Neg) },
		"second":                           func(q *api.Query) { q.Conds = append(q.Conds, api.Cond{Op: 1}) },
		"window":                           func(q *api.Query) { q.Window = -1 },
		"second's type":                    func(q *api.Query) { q.Elems = append(q.Elems, api.Elem{Type: 9, Var: "b"}) },
		"number":                           func(q *api.Query) { q.Conds[0].Left = []api.Code{num(-1)} },
		"one too many":                     func(q *api.Query) { q.Conds[0].Left = []api.Code{num(1), num(1)} },
		"one that takes what is not there": func(q *api.Query) { q.Conds[0].Left = []api.Code{num(1), {Op: api.Add}} },
		"one that is none behind one":      func(q *api.Query) { q.Conds[0].Left = []api.Code{num(1), {Op: 77}} },
		"field":                            func(q *api.Query) { q.Conds[0].Left = []api.Code{field("a", 4)} },
	} {
		q := one(num(1))
		if query.Print(q) == "" {
			t.Fatal("nothing of what may be printed")
		}
		spoil(&q)
		if s := query.Print(q); s != "" {
			t.Errorf("Print of what may not be (%s): %q", what, s)
		}
	}
	q := one(api.Code{Op: api.Num, N: 5, Var: "!", Field: 9, At: -3})
	if s := query.Print(q); s != "seq A a where 5 = 0 within 1" {
		t.Errorf("what else a code has plays a part: %q", s)
	}
}

// P3.3
func TestAsked(t *testing.T) {
	for s, want := range map[string]bool{
		"a": true, "abc9z0": true, "x": true, "seqs": true, strings.Repeat("a", 5000): true,
		"": false, "A": false, "9a": false, "a ": false, " a": false, "a b": false, "aB": false, "#": false, "1": false, "é": false, "a\n": false,
		"seq": false, "where": false, "and": false, "within": false, "by": false, "key": false,
	} {
		if query.Name(s) != want {
			t.Errorf("Name(%.20q): not %v", s, want)
		}
	}
	sound := func(want bool, l ...api.Code) {
		t.Helper()
		if query.Sound(l) != want {
			t.Errorf("Sound(%v): not %v", l, want)
		}
	}
	sound(false)
	sound(true, num(0))
	sound(false, num(-1))
	sound(true, count("a"))
	sound(false, count("by"))
	sound(false, count(""))
	sound(true, field("a", 3))
	sound(false, field("a", 4))
	sound(false, field("a", -1))
	sound(false, field("A", 0))
	sound(false, num(1), num(2))
	for op := -1; op < 12; op++ {
		sound(op >= api.Add && op <= api.Rem, num(1), num(2), api.Code{Op: op})
		sound(op == api.Neg, num(1), api.Code{Op: op, N: -1, Field: 7})
		sound(false, api.Code{Op: op, N: -1, Field: 7})
	}
	sound(false, num(1), api.Code{Op: api.Add}, num(2))
	sound(false, append([]api.Code{num(1), num(2)}, ops(api.Add, api.Add)...)...)
	sound(true, append([]api.Code{num(1), num(2), num(3)}, ops(api.Add, api.Neg, api.Add)...)...)
	sound(true, api.Code{Op: api.Count, Var: "a", N: -5, Field: 77, At: -1})
}

// P3.4
func TestParsedAgain(t *testing.T) {
	r := rand.New(rand.NewSource(3))
	for range 3000 {
		s := "seq A+ a, !B b,C c where " + reckoning(r, 4) + ">=" + reckoning(r, 3) + " and " + reckoning(r, 1) + "=1 within 4"
		q, _, err := query.Parse(s)
		if l, _, over := lex.Lex(s); over == api.OK && err != api.OK {
			t.Fatalf("%q: %d, of %d tokens", s, err, len(l))
		} else if err != api.OK {
			continue
		}
		again, _, err := query.Parse(query.Print(q))
		if fmt.Sprint(q) != fmt.Sprint(again) || err != api.OK {
			t.Fatalf("%q is printed %q", s, query.Print(q))
		}
	}
}

func reckoning(r *rand.Rand, deep int) string {
	if deep == 0 {
		return []string{"1", "#a", "a.x", "c.w", "20"}[r.Intn(5)]
	}
	switch r.Intn(4) {
	case 0:
		return "-" + reckoning(r, deep-1)
	case 1:
		return "(" + reckoning(r, deep-1) + ")"
	}
	return reckoning(r, deep-1) + string("+-*/%"[r.Intn(5)]) + reckoning(r, deep-1)
}

// P3.2, P3.3: rows of codes may be of any length
func TestLong(t *testing.T) {
	l := []api.Code{num(1)}
	for range 20000 {
		l = append(l, num(1), api.Code{Op: api.Add})
	}
	if !query.Sound(l) || len(query.Print(one(l...))) < 80000 {
		t.Errorf("a long sum is not printed")
	}
	l = l[:1]
	for range 20000 {
		l = append(l, api.Code{Op: api.Neg})
	}
	if !query.Sound(l) || len(query.Print(one(l...))) < 20000 {
		t.Errorf("a deep sum is not printed")
	}
}
