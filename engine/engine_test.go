package engine_test

import (
	"fmt"
	"math/rand"
	"testing"

	"sibyl/api"
	"sibyl/client"
	"sibyl/engine"
)

func is(t *testing.T, what string, got, want any) {
	t.Helper()
	if g, w := fmt.Sprintf("%+v", got), fmt.Sprintf("%+v", want); g != w {
		t.Errorf("%s: %s, want %s", what, g, w)
	}
}

func config(shards int) api.Config {
	return api.Config{Shards: shards, Inbox: 8, Slots: 32, Queries: 4, Runs: 20, Outputs: 5, Stamps: 1 << 20}
}

func register(text string) api.Call { return api.Call{Kind: api.CmdRegister, Text: text} }
func publish(typ, key int) api.Call {
	return api.Call{Kind: api.CmdPublish, Event: api.Event{Type: typ, Key: key}}
}
func poll(id, n int) api.Call { return api.Call{Kind: api.CmdPoll, ID: id, N: n} }
func end(id int) api.Call     { return api.Call{Kind: api.CmdUnregister, ID: id} }

var closing = api.Call{Kind: api.CmdClose}

// P23.1
func TestMade(t *testing.T) {
	for shards, want := range map[int]bool{0: false, 1: true, 15: true, 16: false, -1: false} {
		is(t, fmt.Sprint("New of shards ", shards), engine.New(config(shards)) != nil, want)
	}
	is(t, "New of the zero config", engine.New(api.Config{}) == nil, true)
	for n := range 11 {
		scripts := make([][]api.Call, n)
		x := engine.New(config(3), scripts...)
		if is(t, fmt.Sprint("New of scripts ", n), x != nil, n <= 8); n > 8 {
			continue
		}
		tail, closed := x.Log().Tail()
		is(t, "a new one", []any{x.Tasks(), x.Steps(), len(x.Ended()), len(x.Open()), x.Quiet(), tail, closed, x.Log().Config()},
			[]any{n + 4, 0, 0, 0, true, 0, false, config(3)})
	}
	script := []api.Call{poll(0, 0)}
	x := engine.New(config(1), script)
	script[0] = publish(0, 0)
	x.Step(0)
	is(t, "the script is its own", x.Ended()[0].Call, poll(0, 0))
}

// P23.2, P23.3
func TestSteps(t *testing.T) {
	x := engine.New(config(2), []api.Call{publish(3, 7), poll(0, 0), end(5)}, nil)
	// the tasks: two clients, two workers, the merger
	is(t, "nothing to be done", []bool{x.Step(1), x.Step(2), x.Step(3), x.Step(4), x.Step(-1), x.Step(-4)}, []bool{false, false, false, false, false, false})
	is(t, "Steps", x.Steps(), 6)
	is(t, "begun", []bool{x.Step(0), x.Quiet()}, []bool{true, false})
	open := api.Done{From: 6, To: -1, Stamp: -1, Call: publish(3, 7)}
	is(t, "Open", x.Open(), []api.Done{open})
	is(t, "by other picks", []bool{x.Step(5), x.Step(-5), x.Step(5000), x.Step(-5000)}, []bool{true, true, true, true})
	open.Stamp = 0
	is(t, "Open, with a stamp", []any{x.Open(), len(x.Ended()), x.Steps()}, []any{[]api.Done{open}, 0, 11})
	x.Step(1)
	is(t, "Step", x.Step(0), true)
	open.To = 12
	is(t, "Ended", []any{x.Ended(), len(x.Open())}, []any{[]api.Done{open}, 0})
	// one that ends in the step in which it is begun
	is(t, "Step", x.Step(0), true)
	is(t, "Ended, at once", x.Ended()[1:], []api.Done{{Index: 1, From: 13, To: 13, Stamp: -1, Call: poll(0, 0), Answer: api.Answer{Err: api.ErrArg}}})
	for range 6 {
		is(t, "Step", x.Step(0), true)
	}
	is(t, "Open", x.Open(), []api.Done{{Index: 2, From: 14, To: -1, Stamp: 1, Call: end(5)}})
	// a worker's Step, and the merger's
	for range 7 * 2 {
		is(t, "Step of the workers", []bool{x.Step(2), x.Step(3)}, []bool{true, true})
	}
	is(t, "Step", []any{x.Step(2), x.Step(3), x.Log().Cursor(0), x.Log().Cursor(1), x.Log().Low()}, []any{false, false, 2, 2, 0})
	n := 0
	for x.Step(4) {
		n++
	}
	is(t, "Steps of the merger", []int{n, x.Log().Low()}, []int{7 + 5 + 1, 2})
	is(t, "not quiet", x.Quiet(), false)
	is(t, "the last one", []bool{x.Step(0), x.Step(0)}, []bool{true, false})
	is(t, "Ended", x.Ended()[2].Answer, api.Answer{Err: api.ErrNone})
	is(t, "quiet", []any{x.Quiet(), len(x.Open()), x.Steps()}, []any{true, 0, 20 + 28 + 2 + 14 + 2})
	_ = x.Step(-1 << 63)
	_ = x.Step(1<<63 - 1)
	is(t, "Steps", x.Steps(), 68)
}

// P23.3
func TestAsked(t *testing.T) {
	x := engine.New(config(3), []api.Call{register("seq A a within 1"), publish(0, 0), poll(0, 9)})
	x.Round()
	l := x.Ended()
	is(t, "answers", []api.Answer{l[0].Answer, l[1].Answer, l[2].Answer}, []api.Answer{{N: 0}, {N: 1}, {Matches: [][][]int{{{1}}}}})
	is(t, "stamps", []int{l[0].Stamp, l[1].Stamp, l[2].Stamp}, []int{0, 1, 2})
	l[2].Answer.Matches[0][0][0] = 77
	l[0].Stamp = 77
	is(t, "told again", []any{x.Ended()[2].Answer.Matches, x.Ended()[0].Stamp}, []any{[][][]int{{{1}}}, 0})
	is(t, "Worker", []bool{x.Worker(0) != nil, x.Worker(2) != nil, x.Worker(3) == nil, x.Worker(-1) == nil, x.Worker(0) == x.Worker(0)}, []bool{true, true, true, true, true})
	is(t, "Merger, Log", []any{x.Merger().Desk().Live(), x.Log().Low(), x.Log() == x.Log(), x.Merger() == x.Merger()}, []any{1, 3, true, true})
}

// P23.4
func TestRound(t *testing.T) {
	is(t, "no scripts", rounds(engine.New(config(1))), []int{0, 0, 0})
	is(t, "empty ones", rounds(engine.New(config(1), nil, []api.Call{})), []int{0, 0, 0})
	is(t, "a poll of none", rounds(engine.New(config(1), []api.Call{poll(0, 0)})), []int{1, 3, 1})
	is(t, "two", rounds(engine.New(config(1), []api.Call{poll(0, 0), poll(0, 0)}, []api.Call{poll(0, 0)})), []int{2, 8, 3})
	script := []api.Call{register("seq A+ a, B b within 4"), publish(0, 0), publish(0, 1), publish(1, 0), poll(0, 2), end(0), closing, publish(0, 0), poll(0, 1)}
	for shards := 1; shards < 4; shards++ {
		x, y := engine.New(config(shards), script, script), engine.New(config(shards), script, script)
		n := 0
		for ; !y.Quiet(); n++ {
			for pick := range y.Tasks() {
				y.Step(pick)
			}
		}
		is(t, "Round", rounds(x), []int{n, n * x.Tasks(), 18})
		is(t, "Ended", x.Ended(), y.Ended())
		is(t, "Round again", rounds(x), []int{0, n * x.Tasks(), 18})
		for i := range shards {
			is(t, "Left", x.Worker(i).Left(), true)
		}
	}
	// what lies there, and is not done, is not quiet
	x := engine.New(config(1), []api.Call{publish(0, 0)})
	for range 6 {
		x.Step(0)
	}
	is(t, "an event that nobody has seen", []any{len(x.Ended()), x.Quiet()}, []any{1, false})
	for x.Step(1) {
	}
	is(t, "one that is not done", x.Quiet(), false)
	for range 5 {
		x.Step(2)
	}
	low := x.Log().Low()
	is(t, "the merger is not calm", []any{low, x.Quiet()}, []any{1, false})
	for x.Step(2) {
	}
	is(t, "quiet", []any{x.Quiet(), x.Round()}, []any{true, 0})
	// of a script that is left, too
	x = engine.New(config(1), []api.Call{poll(0, 0), poll(0, 0)})
	x.Step(0)
	is(t, "one call is left", []any{x.Quiet(), x.Round(), x.Quiet()}, []any{false, 1, true})
}

func rounds(x *engine.Engine) []int { return []int{x.Round(), x.Steps(), len(x.Ended())} }

var texts = []string{
	"seq A+ a, B b within 4 by key", "seq A a, B b where b.x >= a.x within 3", "seq A+ a, !C c, B b within 6", "seq B+ b within 3 by key", "seq A a within 1",
	"seq", "seq A a within 9", "seq A a ?",
}

func script(r *rand.Rand, n int) (l []api.Call) {
	for range n {
		switch r.Intn(12) {
		case 0:
			l = append(l, register(texts[r.Intn(len(texts))]))
		case 1:
			l = append(l, end(r.Intn(30)))
		case 2, 3:
			l = append(l, poll(r.Intn(30), r.Intn(4)))
		case 4:
			l = append(l, api.Call{Kind: r.Intn(9) - 2, N: 1})
		default:
			c := publish(r.Intn(3), r.Intn(3))
			c.Event.Nums[0] = r.Int63n(3)
			l = append(l, c)
		}
	}
	return l
}

// P23.5
func TestWhateverThePicks(t *testing.T) {
	r := rand.New(rand.NewSource(23))
	for round := range 60 {
		c := config(1 + r.Intn(4))
		if round%3 == 0 {
			c.Inbox, c.Slots, c.Queries, c.Runs, c.Outputs, c.Stamps = 1+r.Intn(3), 1+r.Intn(6), 1+r.Intn(2), 1+r.Intn(4), 1+r.Intn(3), 20+r.Intn(60)
		}
		var scripts [][]api.Call
		for range 1 + r.Intn(4) {
			scripts = append(scripts, script(r, 30))
		}
		x := engine.New(c, scripts...)
		often := r.Intn(x.Tasks()) // one that goes on more often than others
		for range 3000 {
			pick := r.Intn(3*x.Tasks()) - x.Tasks()
			if r.Intn(2) == 0 {
				pick = often
			}
			x.Step(pick)
			within(t, x)
		}
		if n := x.Round(); n >= 1<<20 {
			t.Fatalf("%d rounds", n)
		}
		within(t, x)
		is(t, "each call ended", []int{len(x.Open()), len(x.Ended())}, []int{0, 30 * len(scripts)})
		atRest(t, x)
	}
}

// within holds an engine against its config, and what was freed against what was read.
func within(t *testing.T, x *engine.Engine) {
	t.Helper()
	c, l, desk := x.Log().Config(), x.Log(), x.Merger().Desk()
	tail, _ := l.Tail()
	if tail-l.Low() > c.Inbox || tail > c.Stamps || l.Store().Used() > c.Slots || desk.Live() > c.Queries {
		t.Fatalf("more than may be: tail %d, Low %d, %d slots, %d queries of %+v", tail, l.Low(), l.Store().Used(), desk.Live(), c)
	}
	for i := range c.Shards {
		if n := x.Worker(i).Shard().Misses(); n > 0 {
			t.Fatalf("worker %d has read what is not there, %d times", i, n)
		}
	}
	for id := range 30 {
		if desk.Waiting(id) > c.Outputs {
			t.Fatalf("%d matches of %d wait", desk.Waiting(id), id)
		}
	}
}

// atRest ends all queries, if it may, and looks whether all slots are free, then.
func atRest(t *testing.T, x *engine.Engine) {
	t.Helper()
	var ids []int
	for _, d := range x.Ended() {
		if d.Call.Kind == api.CmdRegister && d.Answer.Err == api.OK {
			ids = append(ids, d.Stamp)
		}
		if d.Call.Kind == api.CmdClose && d.Answer.Err == api.OK {
			return
		}
	}
	for _, id := range ids {
		if ask(x, end(id)).Err == api.ErrOver {
			return
		}
	}
	for range 3 {
		ask(x, poll(0, 1))
	}
	if tail, _ := x.Log().Tail(); tail == x.Log().Config().Stamps {
		return
	}
	is(t, "slots that are live, or used", []int{x.Log().Store().Live(), x.Log().Store().Used()}, []int{0, 0})
}

// ask has a client of nobody's do a call, while the engine goes on.
func ask(x *engine.Engine, c api.Call) api.Answer {
	k := client.New(x.Log(), c)
	for !k.Done() {
		k.Step()
		x.Round()
	}
	x.Round()
	return k.Answer()
}

func TestNil(t *testing.T) {
	var x *engine.Engine
	is(t, "a nil engine", []any{x.Step(0), x.Tasks(), x.Steps(), len(x.Ended()), len(x.Open()), x.Quiet(), x.Round(), x.Log() == nil, x.Worker(0) == nil, x.Merger() == nil},
		[]any{false, 0, 0, 0, 0, true, 0, true, true, true})
}
