package merger_test

import (
	"fmt"
	"math/rand"
	"testing"

	"sibyl/api"
	"sibyl/client"
	"sibyl/log"
	"sibyl/merger"
	"sibyl/worker"
)

func is(t *testing.T, what string, got, want any) {
	t.Helper()
	if g, w := fmt.Sprintf("%+v", got), fmt.Sprintf("%+v", want); g != w {
		t.Errorf("%s: %s, want %s", what, g, w)
	}
}

func config(shards, outputs int) api.Config {
	return api.Config{Shards: shards, Inbox: 9, Slots: 64, Queries: 2, Runs: 99, Outputs: outputs, Stamps: 1 << 20}
}

// bench is a log, with those that work at it.
type bench struct {
	t       *testing.T
	log     *log.Log
	workers []*worker.Worker
	merger  *merger.Merger
}

func newBench(t *testing.T, shards, outputs int) *bench {
	l := log.New(config(shards, outputs))
	b := &bench{t: t, log: l, merger: merger.New(l)}
	for i := range shards {
		b.workers = append(b.workers, worker.New(l, i))
	}
	return b
}

// call has a client do a call up to where it is filled in, and the workers see it.
func (b *bench) call(c api.Call) *client.Client {
	b.t.Helper()
	x := client.New(b.log, c)
	for range 5 {
		x.Step()
	}
	if x.Stamp() < 0 {
		b.t.Fatalf("%+v is refused: %+v", c, x.Answer())
	}
	for _, w := range b.workers {
		for w.Step() {
		}
	}
	return x
}

// merge has the merger go on till nothing is done, and tells how many steps that were.
func (b *bench) merge() int {
	b.t.Helper()
	n := 0
	for b.merger.Step() {
		if n++; n > 1000 {
			b.t.Fatal("there is no end")
		}
	}
	is(b.t, "Calm", b.merger.Calm(), true)
	return n
}

// told is what a call is told, behind so many steps of the merger.
func (b *bench) told(c api.Call, steps int, want api.Answer) {
	b.t.Helper()
	x := b.call(c)
	is(b.t, fmt.Sprintf("steps of %+v", c), b.merge(), steps)
	x.Step()
	is(b.t, fmt.Sprintf("answer to %+v", c), []any{x.Done(), x.Answer()}, []any{true, want})
}

// answers tells what a call is told, whatever the steps.
func (b *bench) answers(c api.Call, want api.Answer) {
	b.t.Helper()
	x := b.call(c)
	b.merge()
	x.Step()
	is(b.t, fmt.Sprintf("answer to %+v", c), []any{x.Done(), x.Answer()}, []any{true, want})
}

func register(text string) api.Call  { return api.Call{Kind: api.CmdRegister, Text: text} }
func publish(typ int) api.Call       { return api.Call{Kind: api.CmdPublish, Event: api.Event{Type: typ}} }
func poll(id, n int) api.Call        { return api.Call{Kind: api.CmdPoll, ID: id, N: n} }
func end(id int) api.Call            { return api.Call{Kind: api.CmdUnregister, ID: id} }
func fails(err api.Errno) api.Answer { return api.Answer{Err: err} }

// P22.1
func TestBegun(t *testing.T) {
	is(t, "New of no log", merger.New(nil) == nil, true)
	l := log.New(config(1, 1))
	x := merger.New(l)
	is(t, "a new one", []any{x.Calm(), x.Desk() != nil, x.Desk().Live(), x.Step(), x.Calm(), x.Desk() == x.Desk()}, []any{true, true, 0, false, true, true})
	for i := range 3 {
		a, _ := x.Desk().Do(i, api.Command{Kind: api.CmdRegister})
		is(t, "of the log's config", a.Err == api.OK, i < 2)
	}
}

// P22.2
func TestRegister(t *testing.T) {
	b := newBench(t, 2, 9)
	x := b.call(register("seq A a within 1"))
	now := b.log.Epochs().Now()
	for i, want := range [][]any{{0, 0, 0, false}, {1, 0, 0, false}, {1, 1, 0, false}, {1, 1, 1, false}, {1, 1, 1, true}} {
		is(t, "Step", b.merger.Step(), true)
		is(t, fmt.Sprint("behind step ", i), []any{b.merger.Desk().Live(), b.log.Low(), b.log.Epochs().Now() - now, b.merger.Calm()}, want)
	}
	is(t, "Step", []any{b.merger.Step(), b.merger.Calm()}, []any{false, true})
	x.Step()
	is(t, "answer", x.Answer(), api.Answer{N: 0})
	b.told(register("seq B b within 1"), 5, api.Answer{N: 1})
	b.told(register("seq B b within 1"), 5, fails(api.ErrFull))
	b.told(end(7), 5, fails(api.ErrNone))
	b.told(end(0), 5, api.Answer{})
}

// P22.2
func TestNotSeenByAll(t *testing.T) {
	l := log.New(config(2, 9))
	x := merger.New(l)
	l.Take(0, false)
	is(t, "not filled in", x.Step(), false)
	l.Fill(0, api.Command{Kind: api.CmdPoll, N: 1})
	l.Post(0, api.Out{})
	is(t, "not seen by all", []any{x.Step(), x.Calm()}, []any{false, true})
	l.Post(1, api.Out{})
	is(t, "seen by all", []any{x.Step(), x.Calm()}, []any{true, false})
}

// P22.2
func TestPublish(t *testing.T) {
	b := newBench(t, 1, 9)
	s := b.log.Store()
	b.told(register("seq B b within 1"), 5, api.Answer{N: 0})
	b.call(publish(0))
	c, _ := b.log.Look(1)
	b.merger.Step()
	b.merger.Step()
	is(t, "Collect, Do", []any{s.Count(c.Ref), b.log.Low()}, []any{1, 1})
	b.merger.Step()
	is(t, "Add of -1", []any{s.Count(c.Ref), b.log.Epochs().Limbo(1)}, []any{0, 0})
	b.merger.Step()
	is(t, "Retire", []any{b.log.Epochs().Limbo(0), b.log.Epochs().Limbo(1), b.log.Low()}, []any{0, 1, 1})
	b.merger.Step()
	_, waits := b.log.Answer(1)
	is(t, "Reply", []any{b.log.Low(), waits}, []any{2, false})
	is(t, "Advance, Ripe", b.merge(), 2)
	is(t, "it is dead", []int{s.Used(), s.Live()}, []int{1, 0})
	x := b.call(poll(0, 1))
	is(t, "and one step more", b.merge(), 6)
	is(t, "it is free", []int{s.Used(), b.log.Epochs().Limbo(1)}, []int{0, 0})
	x.Step()
	is(t, "answer", x.Answer(), api.Answer{})
}

// P22.2
func TestMatches(t *testing.T) {
	b := newBench(t, 3, 2)
	s, desk := b.log.Store(), b.merger.Desk()
	b.told(register("seq B b within 1"), 5, api.Answer{N: 0})
	b.told(register("seq A a, B b within 8"), 5, api.Answer{N: 1})
	b.call(publish(0))
	is(t, "A is held by a node", []int{b.merge(), s.Live()}, []int{6, 1})
	b.call(publish(1))
	is(t, "B is held by matches", []int{b.merge(), s.Live(), desk.Held()}, []int{6, 2, 3})
	b.call(publish(1))
	is(t, "and another one", []int{b.merge(), s.Live(), desk.Held()}, []int{6, 3, 6})
	b.call(publish(1))
	// three of its matches, and that of the log itself; the last one is retired
	is(t, "no more of them may wait", []int{b.merge(), s.Live(), desk.Held()}, []int{5 + 4 + 1, 3, 6})
	is(t, "Lost", []bool{desk.Lost(0), desk.Lost(1)}, []bool{true, true})
	b.answers(poll(1, 1), api.Answer{Matches: [][][]int{{{2}, {3}}}})
	is(t, "Live", []int{s.Live(), desk.Held()}, []int{3, 4})
	b.answers(poll(0, 9), api.Answer{Matches: [][][]int{{{3}}, {{4}}}})
	is(t, "Live", []int{s.Live(), desk.Held()}, []int{2, 2})
	b.answers(poll(0, 9), fails(api.ErrLost))
	b.answers(end(1), api.Answer{})
	is(t, "Live", []int{s.Live(), desk.Held()}, []int{0, 0})
	b.answers(poll(0, 0x7fffffff), fails(api.ErrLost))
	b.answers(poll(1, 1), fails(api.ErrNone))
	is(t, "Used", s.Used(), 0)
}

// P22.3
func TestAsked(t *testing.T) {
	b := newBench(t, 1, 9)
	b.told(register("seq A a within 1"), 5, api.Answer{N: 0})
	b.call(publish(0))
	b.call(poll(0, 1))
	for n, want := range []bool{false, false, false, false, false, true, false, false, false, false, false, false, true} {
		b.merger.Step()
		is(t, fmt.Sprint("Calm behind step ", n+1), b.merger.Calm(), want)
	}
	is(t, "Step", b.merger.Step(), false)
	is(t, "Desk", []int{b.merger.Desk().Live(), b.merger.Desk().Waiting(0)}, []int{1, 0})
}

// P22.4
func TestClose(t *testing.T) {
	b := newBench(t, 2, 9)
	xs := []*client.Client{client.New(b.log, register("seq A a within 1")), client.New(b.log, poll(0, 1)), client.New(b.log, api.Call{Kind: api.CmdClose}), client.New(b.log, poll(7, 1))}
	for _, x := range xs {
		for range 5 {
			x.Step()
		}
	}
	for b.workers[0].Step() {
	}
	is(t, "one has left", []any{b.workers[0].Left(), b.merger.Step(), b.log.Low()}, []any{true, false, 0})
	for range 7 * 2 {
		b.workers[1].Step()
	}
	is(t, "what is ahead of the close is done", []int{b.merge(), b.log.Low()}, []int{10, 2})
	for range 7 {
		b.workers[1].Step()
		is(t, "the other one has not left", []any{b.workers[1].Left(), b.merger.Step()}, []any{false, false})
	}
	b.workers[1].Step()
	is(t, "it has", []any{b.workers[1].Left(), b.merge(), b.log.Low()}, []any{true, 10, 4})
	for i, want := range []api.Answer{{N: 0}, {}, {N: 2}, fails(api.ErrNone)} {
		xs[i].Step()
		is(t, fmt.Sprint("answer ", i), []any{xs[i].Done(), xs[i].Answer()}, []any{true, want})
	}
}

// P22.4
func TestLetGoOnce(t *testing.T) {
	r := rand.New(rand.NewSource(22))
	for shards := 1; shards < 4; shards++ {
		b := newBench(t, shards, 3)
		b.answers(register("seq A+ a, B b within 4 by key"), api.Answer{N: 0})
		b.answers(register("seq A a, B b within 3"), api.Answer{N: 1})
		for i := range 400 {
			switch r.Intn(6) {
			case 0:
				x := b.call(poll(r.Intn(2), 1+r.Intn(2)))
				b.merge()
				x.Step()
				is(t, "done", []any{x.Done(), b.log.Low()}, []any{true, x.Stamp() + 1})
			default:
				b.call(api.Call{Kind: api.CmdPublish, Event: api.Event{Type: r.Intn(3), Key: r.Intn(3)}})
				b.merge()
			}
			held := b.merger.Desk().Held()
			for _, x := range b.workers {
				held += x.Shard().Runs()
			}
			if s := b.log.Store(); i%10 == 0 && (s.Live() > held || held > 0 && s.Live() == 0) {
				t.Fatalf("%d slots are live, of what is held %d times", s.Live(), held)
			}
		}
		b.answers(end(0), api.Answer{})
		b.answers(end(1), api.Answer{})
		is(t, "Live", b.log.Store().Live(), 0)
		for range 2 {
			b.answers(poll(0, 1), fails(api.ErrNone))
		}
		is(t, "Used", b.log.Store().Used(), 0)
	}
}

func TestNil(t *testing.T) {
	var x *merger.Merger
	is(t, "a nil merger", []any{x.Step(), x.Desk() == nil, x.Calm()}, []any{false, true, true})
}
