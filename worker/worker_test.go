package worker_test

import (
	"fmt"
	"math/rand"
	"testing"

	"sibyl/api"
	"sibyl/client"
	"sibyl/log"
	"sibyl/worker"
)

func is(t *testing.T, what string, got, want any) {
	t.Helper()
	if g, w := fmt.Sprintf("%+v", got), fmt.Sprintf("%+v", want); g != w {
		t.Errorf("%s: %s, want %s", what, g, w)
	}
}

func config(shards int) api.Config {
	return api.Config{Shards: shards, Inbox: 9, Slots: 64, Queries: 9, Runs: 99, Outputs: 9, Stamps: 1 << 20}
}

// call has a client do a call up to where it is filled in, and tells its stamp.
func call(t *testing.T, l *log.Log, c api.Call) int {
	t.Helper()
	x := client.New(l, c)
	for range 5 {
		x.Step()
	}
	if x.Stamp() < 0 {
		t.Fatalf("%+v is refused: %+v", c, x.Answer())
	}
	return x.Stamp()
}

func register(text string) api.Call { return api.Call{Kind: api.CmdRegister, Text: text} }
func publish(typ int) api.Call      { return api.Call{Kind: api.CmdPublish, Event: api.Event{Type: typ}} }

var (
	polling = api.Call{Kind: api.CmdPoll, N: 1}
	closing = api.Call{Kind: api.CmdClose}
)

// steps has a worker go on till nothing is done, and tells how many steps that were.
func steps(t *testing.T, x *worker.Worker) int {
	t.Helper()
	n := 0
	for x.Step() {
		if n++; n > 1000 {
			t.Fatal("there is no end")
		}
	}
	is(t, "Calm", x.Calm(), true)
	return n
}

// reply has what the workers told be done, as a merger would, but that what was found is let go at once.
func reply(t *testing.T, l *log.Log) []api.Out {
	t.Helper()
	c, _ := l.Look(l.Low())
	outs, ok := l.Collect()
	is(t, "Collect", ok, true)
	var gone []api.Ref
	for _, o := range outs {
		for _, h := range o.Hits {
			gone = append(gone, h.Found.Refs...)
		}
	}
	if c.Kind == api.CmdPublish {
		gone = append(gone, c.Ref)
	}
	last := l.Config().Shards
	for _, r := range gone {
		n, ok := l.Store().Add(r, -1)
		is(t, "it was held", ok, true)
		if n == 0 {
			l.Epochs().Retire(last, r)
		}
	}
	l.Reply(api.Answer{})
	l.Epochs().Advance()
	for _, r := range l.Epochs().Ripe(last) {
		is(t, "Free", l.Store().Free(r), true)
	}
	return outs
}

// P21.1
func TestBegun(t *testing.T) {
	l := log.New(config(2))
	for number, want := range map[int]bool{0: true, 1: true, 2: false, -1: false, 1<<63 - 1: false} {
		is(t, fmt.Sprint("New of ", number), worker.New(l, number) != nil, want)
	}
	is(t, "New of no log", worker.New(nil, 0) == nil, true)
	x := worker.New(l, 1)
	is(t, "a new one", []any{x.Left(), x.Calm(), x.Shard() != nil, x.Shard().Runs(), x.Step(), x.Calm()}, []any{false, true, true, 0, false, true})
}

// P21.2
func TestPoll(t *testing.T) {
	l := log.New(config(2))
	x := worker.New(l, 1)
	call(t, l, polling)
	pinned := func() bool {
		_, ok := l.Epochs().Pinned(1)
		return ok
	}
	for i, want := range [][]any{{false, 0, 0, false}, {true, 0, 0, false}, {true, 0, 0, false}, {false, 0, 0, false}, {false, 1, 0, false}, {false, 1, 1, false}, {false, 1, 1, true}} {
		is(t, "Step", x.Step(), true)
		is(t, fmt.Sprint("behind step ", i), []any{pinned(), l.Cursor(1), l.Epochs().Now(), x.Calm()}, want)
	}
	is(t, "Step", []any{x.Step(), x.Step(), l.Cursor(1), l.Cursor(0), x.Left()}, []any{false, false, 1, 0, false})
	call(t, l, polling)
	call(t, l, register("seq A a within 1"))
	is(t, "two more", []any{steps(t, x), l.Cursor(1)}, []any{14, 3})
}

// P21.2
func TestRefs(t *testing.T) {
	l := log.New(config(1))
	x := worker.New(l, 0)
	s := l.Store()
	call(t, l, register("seq A a, B b within 2"))
	is(t, "Register", steps(t, x), 7)
	reply(t, l)
	at := call(t, l, publish(0))
	c, _ := l.Look(at)
	for range 3 {
		x.Step()
	}
	is(t, "Apply", []any{x.Shard().Runs(), s.Count(c.Ref), l.Cursor(0)}, []any{1, 1, 1})
	x.Step()
	is(t, "Add", []any{s.Count(c.Ref), l.Cursor(0)}, []any{2, 1})
	is(t, "Unpin, Post, Advance, Ripe", steps(t, x), 4)
	is(t, "the Out", reply(t, l), []api.Out{{Ups: []api.Ref{c.Ref}}})
	is(t, "held by a node", s.Count(c.Ref), 1)
	at = call(t, l, publish(1))
	b, _ := l.Look(at)
	is(t, "a match", []any{steps(t, x), s.Count(c.Ref), s.Count(b.Ref)}, []any{9, 2, 2})
	is(t, "its hit", reply(t, l)[0].Hits, []api.Hit{{ID: 0, Found: api.Found{Sets: [][]int{{1}, {2}}, Refs: []api.Ref{c.Ref, b.Ref}}}})
	is(t, "held by a node, and by none", []int{s.Count(c.Ref), s.Count(b.Ref)}, []int{1, 0})

	// the run is over: its ref is let go, retired, and, behind two advances, free
	call(t, l, publish(2))
	for range 3 {
		x.Step()
	}
	is(t, "Apply", []any{x.Shard().Runs(), s.Count(c.Ref), l.Epochs().Limbo(0)}, []any{0, 1, 0})
	x.Step()
	is(t, "Add of -1", []any{s.Count(c.Ref), l.Epochs().Limbo(0)}, []any{0, 0})
	x.Step()
	is(t, "Retire", []any{s.Count(c.Ref), l.Epochs().Limbo(0), l.Epochs().Limbo(1)}, []any{0, 1, l.Epochs().Limbo(1)})
	is(t, "Unpin, Post, Advance, Ripe", steps(t, x), 4)
	_, there := s.Get(c.Ref)
	is(t, "it is dead", there, true)
	reply(t, l)
	call(t, l, polling)
	is(t, "and one step more", steps(t, x), 8)
	_, there = s.Get(c.Ref)
	is(t, "it is free", []any{there, l.Epochs().Limbo(0)}, []any{false, 0})
}

// P21.2
func TestUpsFirst(t *testing.T) {
	l := log.New(config(1))
	x := worker.New(l, 0)
	for _, text := range []string{"seq A a, B b within 2", "seq A a, B b within 3"} {
		call(t, l, register(text))
	}
	for range 2 {
		call(t, l, publish(0))
	}
	is(t, "Register, twice; Publish, twice", steps(t, x), 7+7+9+9)
	c, _ := l.Look(2)
	call(t, l, publish(0))
	for range 5 {
		x.Step()
	}
	d, _ := l.Look(4)
	is(t, "two Adds of 1", []int{l.Store().Count(d.Ref), l.Store().Count(c.Ref)}, []int{3, 3})
	x.Step()
	is(t, "one of -1", []int{l.Store().Count(d.Ref), l.Store().Count(c.Ref)}, []int{3, 2})
	is(t, "none is retired", []int{steps(t, x), l.Epochs().Limbo(0)}, []int{4, 0})
}

// P21.2
func TestClose(t *testing.T) {
	l := log.New(config(2))
	a, b := worker.New(l, 0), worker.New(l, 1)
	call(t, l, closing)
	call(t, l, polling)
	for range 7 {
		is(t, "Step", []any{a.Step(), a.Left(), a.Calm()}, []any{true, false, false})
	}
	is(t, "Leave", []any{l.Cursor(0), a.Step(), a.Left(), a.Calm(), l.Cursor(0)}, []any{1, true, true, true, -1})
	is(t, "no steps any more", []any{a.Step(), a.Step(), a.Calm()}, []any{false, false, true})
	_, ok := l.Collect()
	is(t, "the other one has not left", []any{ok, b.Left()}, []any{false, false})
	is(t, "it does", []any{steps(t, b), b.Left()}, []any{8, true})
	is(t, "Collect", len(reply(t, l)), 2)
}

// P21.3
func TestAsked(t *testing.T) {
	l := log.New(config(1))
	x := worker.New(l, 0)
	call(t, l, register("seq A a, B b within 3"))
	call(t, l, publish(0))
	n := 0
	for x.Step() {
		n++
		is(t, fmt.Sprint("Calm behind step ", n), x.Calm(), n == 7 || n == 15)
	}
	is(t, "steps", []any{n, x.Shard().Runs(), x.Shard().Roll().Len(1), x.Shard() == x.Shard()}, []any{15, 1, 1, true})
}

// P21.4
func TestNothingFreedIsRead(t *testing.T) {
	texts := []string{"seq A+ a, B b within 4 by key", "seq A a, B b where b.x >= a.x within 3", "seq A+ a, !C c, B b within 5", "seq B+ b within 3 by key"}
	r := rand.New(rand.NewSource(21))
	for shards := 1; shards < 4; shards++ {
		l := log.New(config(shards))
		var xs []*worker.Worker
		for i := range shards {
			xs = append(xs, worker.New(l, i))
		}
		for i := range 600 {
			c := api.Call{Kind: api.CmdPublish, Event: api.Event{Type: r.Intn(3), Key: r.Intn(4), Nums: [4]int64{r.Int63n(3)}}}
			if i < 4 {
				c = register(texts[i])
			} else if i%150 == 0 {
				c = api.Call{Kind: api.CmdUnregister, ID: i/150 - 1}
			}
			call(t, l, c)
			for calm := false; !calm; {
				xs[r.Intn(shards)].Step()
				calm = true
				for w, x := range xs {
					calm = calm && x.Calm() && l.Cursor(w) > i
					is(t, "Misses", x.Shard().Misses(), 0)
				}
			}
			reply(t, l)
		}
		call(t, l, api.Call{Kind: api.CmdUnregister, ID: 3})
		for range 3 {
			for _, x := range xs {
				steps(t, x)
			}
			reply(t, l)
			call(t, l, polling)
		}
		runs := 0
		for _, x := range xs {
			runs += x.Shard().Runs()
		}
		is(t, "at rest", []int{runs, l.Store().Live(), l.Store().Used()}, []int{0, 0, 0})
	}
}

func TestNil(t *testing.T) {
	var x *worker.Worker
	is(t, "a nil worker", []any{x.Step(), x.Left(), x.Shard() == nil, x.Calm()}, []any{false, true, true, true})
}
