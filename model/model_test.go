package model_test

import (
	"fmt"
	"math/rand"
	"slices"
	"testing"

	"sibyl/api"
	"sibyl/engine"
	"sibyl/model"
)

func is(t *testing.T, what string, got, want any) {
	t.Helper()
	if g, w := fmt.Sprintf("%+v", got), fmt.Sprintf("%+v", want); g != w {
		t.Errorf("%s: %s, want %s", what, g, w)
	}
}

func config() api.Config {
	return api.Config{Shards: 1, Inbox: 4, Slots: 3, Queries: 2, Runs: 6, Outputs: 3, Stamps: 99}
}

func register(text string) api.Call { return api.Call{Kind: api.CmdRegister, Text: text} }
func publish(typ, key int) api.Call {
	return api.Call{Kind: api.CmdPublish, Event: api.Event{Type: typ, Key: key}}
}
func poll(id, n int) api.Call           { return api.Call{Kind: api.CmdPoll, ID: id, N: n} }
func end(id int) api.Call               { return api.Call{Kind: api.CmdUnregister, ID: id} }
func ok(n int, m ...[][]int) api.Answer { return api.Answer{N: n, Matches: m} }
func fails(err api.Errno) api.Answer    { return api.Answer{Err: err} }
func match(sets ...[]int) [][]int       { return sets }
func of(n ...int) []int                 { return n }

var closing = api.Call{Kind: api.CmdClose}

// teller has a model do one call after the other.
type teller struct {
	t     *testing.T
	m     *model.Model
	stamp int
}

func (x *teller) told(c api.Call, want api.Answer) {
	x.t.Helper()
	is(x.t, fmt.Sprintf("at %d: %+v", x.stamp, c), x.m.Do(x.stamp, c), want)
	x.stamp++
}

// again is told what was not taken: its stamp comes again.
func (x *teller) again(c api.Call, want api.Answer) {
	x.t.Helper()
	x.told(c, want)
	x.stamp--
}

func newTeller(t *testing.T, c api.Config) *teller { return &teller{t: t, m: model.New(c)} }

// P24.1
func TestMade(t *testing.T) {
	least := api.Config{Shards: 1, Inbox: 1, Slots: 1, Queries: 1, Runs: 1, Outputs: 1, Stamps: 1}
	most := api.Config{Shards: 15, Inbox: 4096, Slots: 4096, Queries: 4096, Runs: 4096, Outputs: 4096, Stamps: 1 << 40}
	parts := func(c *api.Config) []*int {
		return []*int{&c.Shards, &c.Inbox, &c.Slots, &c.Queries, &c.Runs, &c.Outputs, &c.Stamps}
	}
	right := func(c api.Config, want bool) {
		t.Helper()
		is(t, fmt.Sprintf("%+v", c), []bool{model.New(c) != nil, model.Linear(c)}, []bool{want, want})
	}
	right(least, true)
	right(most, true)
	right(api.Config{}, false)
	for i := range parts(&most) {
		c := least
		*parts(&c)[i] = 0
		right(c, false)
		c = most
		*parts(&c)[i]++
		right(c, false)
	}
	m := model.New(config())
	is(t, "a new one", []int{m.Live(), m.Waiting(0)}, []int{0, 0})
}

// P24.1
func TestRefused(t *testing.T) {
	x := newTeller(t, config())
	for range 2 {
		x.again(api.Call{N: 1}, fails(api.ErrArg))
		x.again(api.Call{Kind: 6, N: 1}, fails(api.ErrArg))
		x.again(api.Call{Kind: -1, N: 1}, fails(api.ErrArg))
		x.again(poll(0, 0), fails(api.ErrArg))
		x.again(poll(9, -1), fails(api.ErrArg))
		x.again(register("seq"), api.Answer{Err: api.ErrSyntax, N: 3})
		x.again(register("seq A a within 9"), fails(api.ErrLimit))
		x.again(register("seq A ?"), api.Answer{Err: api.ErrLex, N: 6})
		x.told(closing, map[bool]api.Answer{true: ok(0), false: fails(api.ErrClosed)}[x.stamp == 0])
	}
	for _, c := range []api.Call{register("seq A a within 1"), end(0), publish(0, 0), closing} {
		x.again(c, fails(api.ErrClosed))
	}
	x.told(poll(0, 1), fails(api.ErrNone))
	is(t, "Live", x.m.Live(), 0)
}

// P24.1
func TestMeant(t *testing.T) {
	x := newTeller(t, config())
	x.told(register("seq A a, B b within 3"), ok(0))
	x.told(register("seq A+ a, B b within 3 by key"), ok(1))
	x.told(register("seq A a within 1"), fails(api.ErrFull))
	x.told(publish(0, 5), ok(3))
	x.told(poll(0, 1), ok(0))
	x.told(publish(0, 6), ok(5))
	x.told(publish(1, 5), ok(6))
	is(t, "Waiting", []int{x.m.Live(), x.m.Waiting(0), x.m.Waiting(1), x.m.Waiting(2)}, []int{2, 2, 1, 0})
	x.told(poll(0, 1), ok(0, match(of(3), of(6))))
	x.told(poll(0, 9), ok(0, match(of(5), of(6))))
	x.told(poll(0, 9), ok(0))
	x.told(poll(1, 1<<62), ok(0, match(of(3), of(6))))
	x.told(poll(2, 9), fails(api.ErrNone))
	x.told(publish(0, 5), ok(12))
	x.told(publish(1, 5), ok(13))
	x.told(poll(1, 9), ok(0, match(of(12), of(13))))
	x.told(end(0), ok(0))
	x.told(end(0), fails(api.ErrNone))
	x.told(poll(0, 1), fails(api.ErrNone))
	x.told(register("seq B b within 1"), ok(18))
	x.told(publish(1, 6), ok(19))
	x.told(poll(1, 9), ok(0, match(of(5), of(19))))
	x.told(poll(18, 9), ok(0, match(of(19))))
	x.told(closing, ok(22))
	x.told(poll(18, 9), ok(0))
	is(t, "Live", x.m.Live(), 2)
}

// P24.1
func TestLostByOutputs(t *testing.T) {
	x := newTeller(t, config())
	x.told(register("seq A a, B b within 8"), ok(0))
	x.told(register("seq B b within 1"), ok(1))
	x.told(publish(0, 0), ok(2))
	x.told(publish(0, 0), ok(3))
	x.told(publish(1, 0), ok(4))
	is(t, "Waiting", x.m.Waiting(0), 2)
	x.told(publish(1, 0), ok(5))
	is(t, "as many as may be", []int{x.m.Waiting(0), x.m.Waiting(1)}, []int{3, 2})
	x.told(poll(0, 2), ok(0, match(of(2), of(4)), match(of(3), of(4))))
	x.told(publish(1, 0), ok(7))
	is(t, "what is lost has no more", []int{x.m.Waiting(0), x.m.Waiting(1)}, []int{1, 3})
	x.told(poll(0, 9), ok(0, match(of(2), of(5))))
	x.told(poll(0, 9), fails(api.ErrLost))
	x.told(poll(1, 1), ok(0, match(of(4))))
	x.told(publish(1, 0), ok(11))
	x.told(poll(1, 9), ok(0, match(of(5)), match(of(7)), match(of(11))))
	x.told(poll(1, 9), ok(0))
	x.told(end(0), ok(0))
	x.told(poll(0, 9), fails(api.ErrNone))
}

// P24.1
func TestLostByRuns(t *testing.T) {
	x := newTeller(t, config())
	x.told(register("seq A+ a, B b within 8 by key"), ok(0))
	x.told(register("seq A+ a within 8"), ok(1))
	for i := range 2 {
		x.told(publish(0, 1), ok(2+i))
	}
	// three runs of each
	is(t, "Waiting", x.m.Waiting(1), 3)
	x.told(publish(0, 2), ok(4))
	is(t, "seven runs, but of three matches that wait", x.m.Waiting(1), 3)
	x.told(poll(1, 9), ok(0, match(of(2)), match(of(2, 3)), match(of(3))))
	x.told(poll(1, 9), fails(api.ErrLost))
	x.told(publish(1, 1), ok(7))
	is(t, "one run of one key, three of another one", x.m.Waiting(0), 3)
	x.told(publish(0, 1), ok(8))
	is(t, "seven of one", x.m.Waiting(0), 3)
	x.told(poll(0, 9), ok(0, match(of(2), of(7)), match(of(2, 3), of(7)), match(of(3), of(7))))
	x.told(poll(0, 9), fails(api.ErrLost))
	x.told(publish(1, 2), ok(11))
	x.told(poll(0, 9), fails(api.ErrLost))

	// too many, and a match: it does not wait
	c := config()
	c.Runs = 1
	x = newTeller(t, c)
	x.told(register("seq A+ a within 8"), ok(0))
	x.told(publish(0, 0), ok(1))
	x.told(publish(0, 0), ok(2))
	x.told(poll(0, 9), ok(0, match(of(1))))
	x.told(poll(0, 9), fails(api.ErrLost))
}

// P24.1: what is told is the caller's
func TestNothingShared(t *testing.T) {
	x := newTeller(t, config())
	x.told(register("seq A a, B b within 8"), ok(0))
	x.told(publish(0, 0), ok(1))
	x.told(publish(1, 0), ok(2))
	a := x.m.Do(3, poll(0, 1))
	a.Matches[0][0][0] = 77
	x.stamp++
	x.told(publish(1, 0), ok(4))
	x.told(poll(0, 1), ok(0, match(of(1), of(4))))
}

func done(from, to, stamp int, c api.Call, a api.Answer) api.Done {
	return api.Done{From: from, To: to, Stamp: stamp, Call: c, Answer: a}
}

func linear(t *testing.T, what string, want bool, c api.Config, calls ...api.Done) {
	t.Helper()
	is(t, "Linear: "+what, model.Linear(c, calls...), want)
	calls = slices.Clone(calls)
	slices.Reverse(calls)
	is(t, "Linear, handed in the other way round: "+what, model.Linear(c, calls...), want)
}

// P24.2
func TestStamps(t *testing.T) {
	c := config()
	linear(t, "nothing", true, c)
	linear(t, "nothing, of a config that is not right", false, api.Config{})
	linear(t, "the example", false, c, done(0, 9, 0, end(0), ok(0)))
	linear(t, "the example", true, c, done(0, 9, 0, end(0), fails(api.ErrNone)))
	linear(t, "stamp 1 alone", false, c, done(0, 9, 1, end(0), fails(api.ErrNone)))
	linear(t, "stamps 0, 2", false, c, done(0, 9, 0, publish(0, 0), ok(0)), done(0, 9, 2, publish(0, 0), ok(2)))
	linear(t, "stamps 0, 0", false, c, done(0, 9, 0, poll(1, 1), fails(api.ErrNone)), done(0, 9, 0, poll(1, 1), fails(api.ErrNone)))
	linear(t, "stamps 0, 1", true, c, done(0, 9, 0, publish(0, 0), ok(0)), done(0, 9, 1, publish(0, 0), ok(1)))
	linear(t, "one under way has none, one has", true, c, done(0, -1, -1, publish(0, 0), ok(0)), done(0, -1, 0, publish(0, 0), ok(0)))
	linear(t, "one under way has stamp 1, none 0", false, c, done(0, -1, 1, publish(0, 0), ok(0)))
}

// P24.2
func TestOrder(t *testing.T) {
	c := config()
	two := func(from0, to0, from1, to1 int) []api.Done {
		return []api.Done{done(from0, to0, 0, publish(0, 0), ok(0)), done(from1, to1, 1, publish(0, 0), ok(1))}
	}
	linear(t, "one behind the other", true, c, two(0, 4, 5, 9)...)
	linear(t, "at the same time", true, c, two(5, 9, 0, 5)...)
	linear(t, "the second one's end is ahead", false, c, two(5, 9, 0, 4)...)
	linear(t, "the first one is under way", false, c, two(5, -1, 0, 4)...)
	linear(t, "the second one is under way", true, c, two(5, 9, 0, -1)...)
	three := append(two(0, 9, 3, 20), done(2, 2, 2, publish(0, 0), ok(2)))
	linear(t, "the third one ended ahead of the second one's beginning", false, c, three...)
	linear(t, "without a stamp there is no order", true, c, append(two(5, 9, 6, 20), done(0, 4, -1, poll(0, 0), fails(api.ErrArg)))...)
}

// P24.2
func TestAnswers(t *testing.T) {
	c := config()
	calls := func() []api.Done {
		return []api.Done{
			done(0, 9, 0, register("seq A a within 1"), ok(0)),
			done(0, 9, 1, publish(0, 0), ok(1)),
			done(0, 9, 2, poll(0, 1), ok(0, match(of(1)))),
			done(0, 9, 3, poll(0, 1), ok(0)),
		}
	}
	linear(t, "what a model tells", true, c, calls()...)
	for what, spoil := range map[string]func(l []api.Done){
		"another N":          func(l []api.Done) { l[1].Answer.N = 2 },
		"another Err":        func(l []api.Done) { l[3].Answer.Err = api.ErrLost },
		"another number":     func(l []api.Done) { l[2].Answer.Matches = [][][]int{{{2}}} },
		"a set more":         func(l []api.Done) { l[2].Answer.Matches = [][][]int{{{1}, {}}} },
		"no match":           func(l []api.Done) { l[2].Answer.Matches = nil },
		"a match more":       func(l []api.Done) { l[3].Answer.Matches = [][][]int{{{1}}} },
		"an empty match":     func(l []api.Done) { l[3].Answer.Matches = [][][]int{nil} },
		"another order":      func(l []api.Done) { l[2].Stamp, l[3].Stamp = 3, 2 },
		"a poll ahead of it": func(l []api.Done) { l[1].Stamp, l[2].Stamp = 2, 1 },
	} {
		l := calls()
		spoil(l)
		linear(t, what, false, c, l...)
	}
	l := calls()
	l[1].To, l[1].Answer = -1, api.Answer{}
	linear(t, "what is under way was done, but not told", true, c, l...)
	l[3].Answer.Matches = [][][]int{}
	linear(t, "an empty row is none", true, c, l...)
}

// P24.2
func TestWithoutStamps(t *testing.T) {
	c := config()
	for what, x := range map[string]struct {
		want bool
		d    api.Done
	}{
		"a kind that is none":          {true, done(0, 0, -1, api.Call{Kind: 9}, fails(api.ErrArg))},
		"a kind that is none, told OK": {false, done(0, 0, -1, api.Call{Kind: 9}, ok(0))},
		"another error":                {false, done(0, 0, -1, api.Call{Kind: 9}, fails(api.ErrClosed))},
		"an N":                         {false, done(0, 0, -1, api.Call{Kind: 9}, api.Answer{Err: api.ErrArg, N: 1})},
		"matches":                      {false, done(0, 0, -1, api.Call{Kind: 9}, api.Answer{Err: api.ErrArg, Matches: [][][]int{nil}})},
		"a poll of 0":                  {true, done(0, 0, -1, poll(0, 0), fails(api.ErrArg))},
		"a poll of 1":                  {false, done(0, 0, -1, poll(0, 1), fails(api.ErrArg))},
		"a text":                       {true, done(0, 0, -1, register("seq"), api.Answer{Err: api.ErrSyntax, N: 3})},
		"a text, another place":        {false, done(0, 0, -1, register("seq"), api.Answer{Err: api.ErrSyntax, N: 2})},
		"a text that may not be":       {true, done(0, 0, -1, register("seq A a within 9"), fails(api.ErrLimit))},
		"a text that may be":           {false, done(0, 0, -1, register("seq A a within 1"), ok(0))},
		"what is looked up":            {false, done(0, 0, -1, end(0), fails(api.ErrNone))},
		"what is under way":            {true, done(0, -1, -1, end(0), api.Answer{})},
		"what is under way, and told":  {true, done(0, -1, -1, end(0), ok(7))},
		"closed":                       {false, done(0, 9, -1, end(0), fails(api.ErrClosed))},
		"over":                         {false, done(0, 9, -1, end(0), fails(api.ErrOver))},
		"full":                         {false, done(0, 9, -1, end(0), fails(api.ErrFull))},
	} {
		linear(t, what, x.want, c, x.d)
	}
}

// P24.2
func TestClosedOrOver(t *testing.T) {
	c := config()
	with := func(c api.Call, from, to int, closes api.Done) []api.Done {
		return []api.Done{closes, done(from, to, -1, c, fails(api.ErrClosed))}
	}
	close0 := done(5, 20, 0, closing, ok(0))
	linear(t, "closed", true, c, with(end(0), 0, 9, close0)...)
	linear(t, "closed, a publish", true, c, with(publish(0, 0), 0, 6, close0)...)
	linear(t, "closed, a close", true, c, with(closing, 0, 6, close0)...)
	linear(t, "closed, a poll", false, c, with(poll(0, 1), 0, 9, close0)...)
	linear(t, "closed, ahead of the close's beginning", false, c, with(end(0), 0, 5, close0)...)
	linear(t, "closed, by what is under way", true, c, with(end(0), 0, 9, done(5, -1, 0, closing, ok(0)))...)
	linear(t, "closed, by what has no stamp", false, c, with(end(0), 0, 9, done(5, -1, -1, closing, ok(0)))...)
	linear(t, "closed, by another kind", false, c, with(end(0), 0, 9, done(5, 9, 0, publish(0, 0), ok(0)))...)
	l := with(end(0), 0, 9, close0)
	l[1].Answer.N = 1
	linear(t, "closed, and an N", false, c, l...)
	linear(t, "closed, of what is refused unseen", false, c, with(api.Call{Kind: 9}, 0, 9, close0)...)
	linear(t, "closed, of a text that is none", false, c, with(register("seq"), 0, 9, close0)...)

	c.Stamps = 2
	over := []api.Done{done(0, 9, 0, publish(0, 0), ok(0)), done(4, -1, 1, publish(0, 0), ok(1)), done(1, 9, -1, poll(0, 1), fails(api.ErrOver))}
	linear(t, "over", true, c, over...)
	over[2].To = 5
	linear(t, "over, just so", true, c, over...)
	over[2].To = 4
	linear(t, "over, ahead of the last one's beginning", false, c, over...)
	c.Stamps = 3
	over[2].To = 9
	linear(t, "over, where one is left", false, c, over...)
}

// P24.2
func TestFull(t *testing.T) {
	c := config()
	c.Inbox, c.Slots = 2, 3
	full := func(d api.Done, n int, kind api.Call) []api.Done {
		l := []api.Done{d}
		for i := range n {
			l = append(l, done(i, -1, i, kind, api.Answer{}))
		}
		return l
	}
	linear(t, "full", true, c, full(done(0, 9, -1, end(0), fails(api.ErrFull)), 2, poll(0, 1))...)
	linear(t, "full, just so", true, c, full(done(0, 2, -1, end(0), fails(api.ErrFull)), 2, poll(0, 1))...)
	linear(t, "full, ahead of the last one's beginning", false, c, full(done(0, 1, -1, end(0), fails(api.ErrFull)), 2, poll(0, 1))...)
	linear(t, "full of one", false, c, full(done(0, 9, -1, end(0), fails(api.ErrFull)), 1, poll(0, 1))...)

	// no slots: of other CmdPublish alone, with a stamp or without
	c.Inbox = 9
	linear(t, "no slots", true, c, full(done(0, 9, -1, publish(0, 0), fails(api.ErrFull)), 3, publish(0, 0))...)
	linear(t, "no slots, of two, and itself", false, c, full(done(0, 9, -1, publish(0, 0), fails(api.ErrFull)), 2, publish(0, 0))...)
	linear(t, "no slots, ahead of the last one's beginning", false, c, full(done(0, 2, -1, publish(0, 0), fails(api.ErrFull)), 3, publish(0, 0))...)
	linear(t, "no slots, of polls", false, c, full(done(0, 9, -1, publish(0, 0), fails(api.ErrFull)), 3, poll(0, 1))...)
	linear(t, "no slots, begun behind all others", true, c, full(done(9, 9, -1, publish(0, 0), fails(api.ErrFull)), 3, publish(0, 0))...)
	linear(t, "no slots, for an end", false, c, full(done(0, 9, -1, end(0), fails(api.ErrFull)), 3, publish(0, 0))...)
	l := full(done(0, 9, -1, publish(0, 0), fails(api.ErrFull)), 2, publish(0, 0))
	linear(t, "no slots, by one without a stamp", true, c, append(l, done(8, -1, -1, publish(0, 0), api.Answer{}))...)
	l = append(l, done(9, -1, -1, publish(0, 0), api.Answer{}))
	linear(t, "no slots, by one that was begun later", false, c, l...)
}

var texts = []string{
	"seq A+ a, B b within 4 by key", "seq A a, B b where b.x >= a.x within 3", "seq A+ a, !C c, B b within 6", "seq B+ b within 3 by key", "seq A a within 1",
	"seq B a, !A b, C+ c where #c < 3 and b.x = a.x within 7 by key", "seq", "seq A a within 9", "seq A a ?",
}

func script(r *rand.Rand, n int, closes bool) (l []api.Call) {
	for range n {
		switch k := r.Intn(40); {
		case k < 5:
			l = append(l, register(texts[r.Intn(len(texts))]))
		case k < 7:
			l = append(l, end(r.Intn(30)))
		case k < 17:
			l = append(l, poll(r.Intn(20), r.Intn(5)))
		case k == 17:
			l = append(l, api.Call{Kind: r.Intn(9) - 2, N: 1})
		case k == 18 && closes:
			l = append(l, closing)
		default:
			c := publish(r.Intn(3), r.Intn(3))
			c.Event.Nums[0] = r.Int63n(3)
			l = append(l, c)
		}
	}
	return l
}

// P24.3
func TestEngineIsLinear(t *testing.T) {
	r := rand.New(rand.NewSource(24))
	for round := range 150 {
		c := api.Config{Shards: 1 + r.Intn(4), Inbox: 1 + r.Intn(8), Slots: 1 + r.Intn(20), Queries: 1 + r.Intn(5), Runs: 1 + r.Intn(12), Outputs: 1 + r.Intn(5), Stamps: 1 << 30}
		if round%5 == 0 {
			c.Stamps = 1 + r.Intn(60)
		}
		var scripts [][]api.Call
		for range 1 + r.Intn(5) {
			scripts = append(scripts, script(r, 25, round%3 == 0))
		}
		x := engine.New(c, scripts...)
		often := r.Intn(x.Tasks())
		for i := range 1500 {
			pick := r.Intn(x.Tasks())
			if r.Intn(3) == 0 {
				pick = often
			}
			if x.Step(pick); i%100 == 0 && !model.Linear(c, append(x.Ended(), x.Open()...)...) {
				t.Fatalf("round %d, behind step %d: what was told is not linear", round, i)
			}
		}
		x.Round()
		l := x.Ended()
		if !model.Linear(c, l...) {
			t.Fatalf("round %d: what was told is not linear", round)
		}
		// and nothing else is
		for i, d := range l {
			if d.Stamp >= 0 && i%7 == 0 {
				k := append([]api.Done{}, l...)
				k[i].Answer.N++
				if model.Linear(c, k...) {
					t.Fatalf("round %d: another answer to call %d is linear", round, i)
				}
			}
		}
	}
}

func TestNil(t *testing.T) {
	var m *model.Model
	is(t, "a nil model", []any{m.Do(0, closing), m.Waiting(0), m.Live()}, []any{fails(api.ErrArg), 0, 0})
}
