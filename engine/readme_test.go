package engine_test

import (
	"testing"

	"sibyl/api"
	"sibyl/engine"
	"sibyl/model"
	"sibyl/query"
	"sibyl/sense"
	"sibyl/table"
)

// The README's examples, as they stand there.
func TestReadme(t *testing.T) {
	q, at, err := query.Parse("seq A+ a, B b where b.x > #a within 4")
	is(t, "Parse", []any{at, err}, []any{37, api.OK})
	m, err := table.Make(q)
	b := api.Event{Type: 1, Nums: [4]int64{2}}
	is(t, "Over", []any{err, sense.Over(m, api.Event{}, b)}, []any{api.OK, [][][]int{{{0}, {1}}}})

	first := []api.Call{{Kind: api.CmdRegister, Text: "seq A+ a, B b where b.x > #a within 4"}, {Kind: api.CmdPoll, ID: 0, N: 9}}
	second := []api.Call{{Kind: api.CmdPublish}, {Kind: api.CmdPublish, Event: b}}
	x := engine.New(config(2), first, second)
	for _, pick := range []int{0, 1, 0, 2, 3, 4, 1, 0, 0, 1} {
		x.Step(pick)
	}
	x.Round()
	is(t, "Ended", len(x.Ended()), 4)
	is(t, "Linear", model.Linear(config(2), append(x.Ended(), x.Open()...)...), true)
}
