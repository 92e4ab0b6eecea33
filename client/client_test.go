package client_test

import (
	"fmt"
	"strings"
	"testing"

	"sibyl/api"
	"sibyl/client"
	"sibyl/log"
	"sibyl/query"
	"sibyl/table"
)

func is(t *testing.T, what string, got, want any) {
	t.Helper()
	if g, w := fmt.Sprintf("%+v", got), fmt.Sprintf("%+v", want); g != w {
		t.Errorf("%s: %s, want %s", what, g, w)
	}
}

func config(inbox, slots, stamps int) api.Config {
	return api.Config{Shards: 1, Inbox: inbox, Slots: slots, Queries: 9, Runs: 9, Outputs: 9, Stamps: stamps}
}

func publish(n int) api.Call {
	return api.Call{Kind: api.CmdPublish, Event: api.Event{Type: n, Key: n}}
}
func poll(n int) api.Call { return api.Call{Kind: api.CmdPoll, ID: 3, N: n} }

var closing = api.Call{Kind: api.CmdClose}

func tail(l *log.Log) int {
	n, _ := l.Tail()
	return n
}

// steps has a client make so many steps, none of which is the last one.
func steps(t *testing.T, x *client.Client, n int) {
	t.Helper()
	for i := range n {
		if !x.Step() || x.Done() {
			t.Errorf("step %d is the last one, or none: %+v", i+1, x.Answer())
		}
	}
}

// ends has a client end in so many steps, with an answer.
func ends(t *testing.T, x *client.Client, n int, want api.Answer) {
	t.Helper()
	steps(t, x, n-1)
	is(t, "not done", []any{x.Done(), x.Answer()}, []any{false, api.Answer{}})
	is(t, "the last step", []any{x.Step(), x.Done(), x.Answer()}, []any{true, true, want})
	is(t, "one more", []any{x.Step(), x.Done(), x.Answer()}, []any{false, true, want})
}

func fails(err api.Errno) api.Answer { return api.Answer{Err: err} }

func reply(t *testing.T, l *log.Log, a api.Answer) {
	t.Helper()
	if !l.Post(0, api.Out{}) || !l.Reply(a) {
		t.Errorf("no reply")
	}
}

// P20: Read
func TestRead(t *testing.T) {
	for s, want := range map[string]api.Text{
		"":                                 {Err: api.ErrSyntax},
		"seq":                              {Err: api.ErrSyntax, At: 3},
		"seq A ?":                          {Err: api.ErrLex, At: 6},
		strings.Repeat("a ", 201):          {Err: api.ErrLimit, At: 400},
		"seq A a within 9":                 {Err: api.ErrLimit},
		"seq A a, B a within 2":            {Err: api.ErrName},
		"seq A a, !B b within 2":           {Err: api.ErrPlace},
		"seq A a where b.x = 1 within 999": {Err: api.ErrLimit},
	} {
		is(t, s, client.Read(s), want)
	}
	s := "seq A a, !B b, C+ c where b.x > a.x within 4 by key"
	q, _, _ := query.Parse(s)
	m, _ := table.Make(q)
	is(t, s, client.Read(s), api.Text{Table: m})
}

// P20.1
func TestDoneAtOnce(t *testing.T) {
	l := log.New(config(4, 4, 9))
	for what, c := range map[string]struct {
		call api.Call
		want api.Answer
	}{
		"kind 0":                  {api.Call{N: 1}, fails(api.ErrArg)},
		"kind 6":                  {api.Call{Kind: 6, N: 1}, fails(api.ErrArg)},
		"kind -1":                 {api.Call{Kind: -1}, fails(api.ErrArg)},
		"a text that is none":     {api.Call{Kind: api.CmdRegister, Text: "seq"}, api.Answer{Err: api.ErrSyntax, N: 3}},
		"a text that may not be":  {api.Call{Kind: api.CmdRegister, Text: "seq A a within 9"}, fails(api.ErrLimit)},
		"a poll of 0":             {poll(0), fails(api.ErrArg)},
		"a poll of less than any": {poll(-1 << 63), fails(api.ErrArg)},
	} {
		x := client.New(l, c.call)
		is(t, what, []any{x.Done(), x.Answer(), x.Stamp(), x.Step()}, []any{true, c.want, -1, false})
	}
	for _, c := range []api.Call{publish(1), {Kind: api.CmdRegister, Text: "seq A a within 1"}, {Kind: api.CmdUnregister}, poll(1), closing} {
		x := client.New(l, c)
		is(t, fmt.Sprint("kind ", c.Kind), []any{x.Done(), x.Answer(), x.Stamp()}, []any{false, api.Answer{}, -1})
	}
	is(t, "the log", []any{tail(l), l.Store().Used()}, []any{0, 0})
	is(t, "of no log", client.New(nil, publish(1)) == nil, true)
}

// P20.2
func TestPublish(t *testing.T) {
	l := log.New(config(4, 4, 9))
	x := client.New(l, publish(5))
	steps(t, x, 2)
	is(t, "Tail, Low", []any{l.Store().Used(), tail(l), x.Stamp()}, []any{0, 0, -1})
	steps(t, x, 1)
	is(t, "Take of the store", []any{l.Store().Used(), tail(l), x.Stamp()}, []any{1, 0, -1})
	steps(t, x, 1)
	_, lies := l.Look(0)
	is(t, "Take", []any{tail(l), x.Stamp(), lies}, []any{1, 0, false})
	ends(t, x, 1, api.Answer{})
	c, _ := l.Look(0)
	is(t, "the command", c, api.Command{Kind: api.CmdPublish, Event: publish(5).Event})
	ends(t, client.New(l, publish(6)), 5, api.Answer{N: 1})
	c, _ = l.Look(1)
	is(t, "the second one's ref", []any{c.Ref, l.Store().Count(c.Ref)}, []any{api.Ref{Slot: 1}, 1})
	e, _ := l.Store().Get(c.Ref)
	is(t, "the second one's event", e, publish(6).Event)
}

// P20.2
func TestRegister(t *testing.T) {
	l := log.New(config(4, 4, 9))
	s := "seq A a, B b where b.x > a.x within 3"
	x := client.New(l, api.Call{Kind: api.CmdRegister, ID: 7, N: -8, Text: s, Event: api.Event{Key: 5}})
	steps(t, x, 2)
	is(t, "Tail, Low", tail(l), 0)
	steps(t, x, 1)
	_, lies := l.Look(0)
	is(t, "Take", []any{tail(l), x.Stamp(), lies}, []any{1, 0, false})
	steps(t, x, 1)
	c, _ := l.Look(0)
	is(t, "the command", c, api.Command{Kind: api.CmdRegister, ID: 7, N: -8, Event: api.Event{Key: 5}, Table: client.Read(s).Table})
	steps(t, x, 10)
	reply(t, l, api.Answer{Err: 16, N: 4, Matches: [][][]int{{{1}}}})
	ends(t, x, 1, api.Answer{Err: 16, N: 4, Matches: [][][]int{{{1}}}})
	_, waits := l.Answer(0)
	is(t, "it waits no more", waits, false)
	x.Answer().Matches[0][0][0] = 77
	is(t, "told again", x.Answer().Matches, [][][]int{{{1}}})
}

// P20.2
func TestOthers(t *testing.T) {
	l := log.New(config(4, 4, 9))
	for i, c := range []api.Call{poll(2), {Kind: api.CmdUnregister, ID: 9, Text: "what ever"}, closing, poll(3)} {
		x := client.New(l, c)
		steps(t, x, 5)
		got, _ := l.Look(i)
		is(t, "the command", got, api.Command{Kind: c.Kind, ID: c.ID, N: c.N})
		is(t, "Stamp", x.Stamp(), i)
	}
	_, closed := l.Tail()
	is(t, "closed", closed, true)
}

// P20.2
func TestRefused(t *testing.T) {
	// closed: all but a poll
	l := log.New(config(1, 1, 2))
	l.Take(0, true)
	for _, c := range []api.Call{publish(1), {Kind: api.CmdRegister, Text: "seq A a within 1"}, {Kind: api.CmdUnregister}, closing} {
		x := client.New(l, c)
		ends(t, x, 1, fails(api.ErrClosed))
		is(t, "Stamp", x.Stamp(), -1)
	}
	// no room: the tail less Low is Inbox
	ends(t, client.New(l, poll(1)), 2, fails(api.ErrFull))
	l.Fill(0, api.Command{Kind: api.CmdPoll})
	reply(t, l, api.Answer{})
	steps(t, client.New(l, poll(1)), 3)
	is(t, "Tail", tail(l), 2)
	// no stamp: of a closed one ErrClosed goes first
	ends(t, client.New(l, poll(1)), 1, fails(api.ErrOver))
	ends(t, client.New(l, publish(1)), 1, fails(api.ErrClosed))
	l = log.New(config(1, 1, 1))
	l.Take(0, false)
	ends(t, client.New(l, publish(1)), 1, fails(api.ErrOver))
	// no slot
	l = log.New(config(4, 1, 9))
	ends(t, client.New(l, publish(1)), 5, api.Answer{})
	x := client.New(l, publish(1))
	ends(t, x, 3, fails(api.ErrFull))
	is(t, "what was refused", []any{x.Stamp(), tail(l), l.Store().Used()}, []any{-1, 1, 1})
}

// P20.2
func TestTakenByAnother(t *testing.T) {
	l := log.New(config(4, 4, 9))
	a, b := client.New(l, publish(1)), client.New(l, poll(1))
	steps(t, a, 3)
	steps(t, b, 2)
	steps(t, client.New(l, poll(1)), 4)
	// b has no slot: on with Tail
	steps(t, b, 1)
	is(t, "Stamp", []int{b.Stamp(), tail(l)}, []int{-1, 1})
	// a has one: it lets that go, and frees it, and goes on with Tail
	steps(t, a, 1)
	is(t, "Take", []int{l.Store().Used(), l.Store().Live(), a.Stamp()}, []int{1, 1, -1})
	steps(t, a, 1)
	is(t, "Add", []int{l.Store().Used(), l.Store().Live()}, []int{1, 0})
	steps(t, a, 1)
	is(t, "Free", []int{l.Store().Used(), l.Store().Live()}, []int{0, 0})
	ends(t, a, 5, api.Answer{N: 1})
	c, _ := l.Look(1)
	is(t, "its ref", c.Ref, api.Ref{Slot: 0, Gen: 1})
	steps(t, b, 4)
	is(t, "Stamp", b.Stamp(), 2)
	reply(t, l, api.Answer{})

	// closed meanwhile: refused, with no slot
	a, b = client.New(l, publish(1)), client.New(l, closing)
	steps(t, a, 3)
	steps(t, b, 3)
	steps(t, a, 3)
	ends(t, a, 1, fails(api.ErrClosed))
	is(t, "what was refused", []int{a.Stamp(), l.Store().Used()}, []int{-1, 1})
	// two that close: the second one is refused, too
	l = log.New(config(4, 4, 9))
	a, b = client.New(l, closing), client.New(l, closing)
	steps(t, a, 2)
	steps(t, b, 3)
	steps(t, a, 1)
	ends(t, a, 1, fails(api.ErrClosed))
}

// P20.4
func TestHoldsNothing(t *testing.T) {
	for n := range 40 {
		l := log.New(config(1+n%4, 1+n%3, 3))
		xs := []*client.Client{client.New(l, publish(1)), client.New(l, publish(2)), client.New(l, closing), client.New(l, publish(3)), client.New(l, poll(1))}
		for i := range 100 {
			xs[(i*i+n*i/3+n)%len(xs)].Step()
		}
		// what can end does now: the others wait for their answers
		for range 20 {
			for _, x := range xs {
				x.Step()
			}
		}
		taken, events := 0, 0
		for _, x := range xs {
			if x.Done() && x.Answer().Err != api.OK {
				is(t, "Stamp of what was refused", x.Stamp(), -1)
				continue
			}
			taken++
			c, ok := l.Look(x.Stamp())
			is(t, "its command lies there", ok, true)
			if c.Kind == api.CmdPublish {
				events++
				is(t, "its slot", l.Store().Count(c.Ref), 1)
			}
		}
		is(t, "Tail, Used, Live", []int{tail(l), l.Store().Used(), l.Store().Live()}, []int{taken, events, events})
	}
}

func TestNil(t *testing.T) {
	var x *client.Client
	is(t, "a nil client", []any{x.Step(), x.Done(), x.Answer(), x.Stamp()}, []any{false, true, fails(api.ErrArg), -1})
}
