package log_test

import (
	"fmt"
	"math/rand"
	"testing"

	"sibyl/api"
	"sibyl/log"
)

func is(t *testing.T, what string, got, want any) {
	t.Helper()
	if g, w := fmt.Sprintf("%+v", got), fmt.Sprintf("%+v", want); g != w {
		t.Errorf("%s: %s, want %s", what, g, w)
	}
}

func config(shards, inbox int) api.Config {
	return api.Config{Shards: shards, Inbox: inbox, Slots: 3, Queries: 4, Runs: 5, Outputs: 6, Stamps: 100}
}

func command(kind, n int) api.Command {
	return api.Command{Kind: kind, ID: n, N: n + 1, Event: api.Event{Type: 3, Key: n}, Ref: api.Ref{Slot: n}, Table: api.Table{Cells: []api.Cell{{Type: n}}, Window: 3}}
}

func told(n int) api.Out {
	return api.Out{
		Hits: []api.Hit{{ID: n, Found: api.Found{Sets: [][]int{{n}}, Refs: []api.Ref{{Slot: n}}}}}, Lost: []int{n}, Ups: []api.Ref{{Gen: n}}, Downs: []api.Ref{{Gen: -n}},
	}
}

func answer(n int) api.Answer { return api.Answer{Err: 15, N: n, Matches: [][][]int{{{n}}}} }

func tail(l *log.Log) []any {
	n, closed := l.Tail()
	return []any{n, closed}
}

func look(l *log.Log, at int) []any {
	c, ok := l.Look(at)
	return []any{c, ok}
}

func collect(l *log.Log) []any {
	outs, ok := l.Collect()
	if len(outs) == 0 {
		return []any{ok}
	}
	return []any{outs, ok}
}

func answers(l *log.Log, at int) []any {
	a, ok := l.Answer(at)
	return []any{a, ok}
}

var (
	no      = []any{false}
	noneAt  = []any{api.Command{}, false}
	noReply = []any{api.Answer{}, false}
)

func all(outs ...api.Out) []any { return []any{outs, true} }

func yes(t *testing.T, what string, got ...bool) {
	t.Helper()
	for i, ok := range got {
		if !ok {
			t.Errorf("%s: %d is false", what, i)
		}
	}
}

// P19.1
func TestRight(t *testing.T) {
	least := api.Config{Shards: 1, Inbox: 1, Slots: 1, Queries: 1, Runs: 1, Outputs: 1, Stamps: 1}
	most := api.Config{Shards: 15, Inbox: 4096, Slots: 4096, Queries: 4096, Runs: 4096, Outputs: 4096, Stamps: 1 << 40}
	parts := func(c *api.Config) []*int {
		return []*int{&c.Shards, &c.Inbox, &c.Slots, &c.Queries, &c.Runs, &c.Outputs, &c.Stamps}
	}
	right := func(c api.Config, want bool) {
		t.Helper()
		is(t, fmt.Sprintf("%+v", c), []bool{log.Right(c), log.New(c) != nil}, []bool{want, want})
	}
	right(api.Config{}, false)
	right(least, true)
	right(most, true)
	for i := range parts(&most) {
		for _, n := range []int{0, -1, -1 << 63} {
			c := least
			*parts(&c)[i] = n
			right(c, false)
		}
		for _, n := range []int{*parts(&most)[i] + 1, 1<<63 - 1} {
			c := most
			*parts(&c)[i] = n
			right(c, false)
		}
	}
}

// P19.1
func TestMade(t *testing.T) {
	l := log.New(config(2, 4))
	is(t, "a new one", []any{l.Config(), tail(l), l.Low(), l.Cursor(0), l.Cursor(1), collect(l), look(l, 0), answers(l, 0)},
		[]any{config(2, 4), []any{0, false}, 0, 0, 0, no, noneAt, noReply})
	for range 3 {
		_, ok := l.Store().Take(api.Event{})
		yes(t, "its slots", ok)
	}
	_, ok := l.Store().Take(api.Event{})
	is(t, "a slot more", []any{ok, l.Store().Used()}, []any{false, 3})
	is(t, "its actors", []bool{l.Epochs().Pin(2), l.Epochs().Pin(3)}, []bool{true, false})
}

// P19.2
func TestTaken(t *testing.T) {
	l := log.New(config(1, 3))
	is(t, "Take of another tail", []bool{l.Take(1, false), l.Take(-1, true)}, []bool{false, false})
	yes(t, "Take", l.Take(0, false))
	is(t, "Tail", []any{tail(l), l.Take(0, false)}, []any{[]any{1, false}, false})
	yes(t, "Take, that closes", l.Take(1, true))
	is(t, "Tail", []any{tail(l), l.Take(2, true), tail(l)}, []any{[]any{2, true}, false, []any{2, true}})
	yes(t, "Take of a closed one", l.Take(2, false))
	is(t, "too many", []any{l.Take(3, false), tail(l)}, []any{false, []any{3, true}})
	is(t, "Fill", []bool{l.Fill(3, command(1, 9)), l.Fill(-1, command(1, 9)), l.Fill(1, command(4, 1)), l.Fill(1, command(4, 2)), l.Fill(1<<63-1, command(1, 9))},
		[]bool{false, false, true, false, false})
	is(t, "Look", []any{look(l, 0), look(l, 1), look(l, 2), look(l, -1), look(l, 3)}, []any{noneAt, []any{command(4, 1), true}, noneAt, noneAt, noneAt})
	yes(t, "Fill of the others", l.Fill(0, command(4, 0)), l.Fill(2, command(4, 2)))
	yes(t, "done", l.Post(0, told(0)), l.Reply(answer(0)))
	is(t, "what is done", []any{look(l, 0), l.Fill(0, command(1, 9)), l.Low(), l.Take(3, false), l.Take(4, false), tail(l)},
		[]any{noneAt, false, 1, true, false, []any{4, true}})

	c := config(1, 9)
	c.Stamps = 2
	l = log.New(c)
	is(t, "all stamps", []any{l.Take(0, false), l.Take(1, false), l.Take(2, false), tail(l)}, []any{true, true, false, []any{2, false}})
}

// P19.3
func TestSeen(t *testing.T) {
	l := log.New(config(2, 3))
	is(t, "Post of nothing", l.Post(0, told(1)), false)
	yes(t, "Take", l.Take(0, false), l.Take(1, false))
	is(t, "Post of what is not filled in", l.Post(0, told(1)), false)
	yes(t, "Fill", l.Fill(1, command(1, 1)))
	is(t, "Post of what is not filled in", l.Post(0, told(1)), false)
	yes(t, "Fill", l.Fill(0, command(1, 0)))
	is(t, "Post", []any{l.Post(0, told(1)), l.Cursor(0), l.Post(0, told(2)), l.Cursor(0), l.Post(0, told(3)), l.Cursor(1)}, []any{true, 1, true, 2, false, 0})
	for _, w := range []int{-1, 2, 15, 1<<63 - 1, -1 << 63} {
		is(t, fmt.Sprint("worker ", w), []any{l.Cursor(w), l.Post(w, told(1)), l.Leave(w)}, []any{-1, false, false})
	}
	is(t, "Leave", []any{l.Leave(1), l.Cursor(1), l.Post(1, told(1)), l.Leave(1), l.Cursor(0)}, []any{true, -1, false, false, 2})
}

// P19.4
func TestDone(t *testing.T) {
	l := log.New(config(2, 4))
	yes(t, "Take", l.Take(0, false), l.Take(1, false), l.Take(2, false))
	yes(t, "Fill", l.Fill(1, command(1, 1)), l.Fill(0, command(4, 0)))
	yes(t, "Post", l.Post(1, told(10)), l.Post(1, told(11)))
	is(t, "not seen by all", []any{collect(l), l.Reply(answer(0)), l.Low()}, []any{no, false, 0})
	yes(t, "Post", l.Post(0, told(20)))
	is(t, "Collect", []any{collect(l), collect(l)}, []any{all(told(20), told(10)), all(told(20), told(10))})
	is(t, "Answer, ahead of Reply", answers(l, 0), noReply)
	yes(t, "Reply", l.Reply(answer(0)))
	is(t, "then", []any{l.Low(), collect(l), l.Reply(answer(1))}, []any{1, no, false})
	is(t, "Answer", []any{answers(l, 1), answers(l, 0), answers(l, 0), answers(l, -1)}, []any{noReply, []any{answer(0), true}, noReply, noReply})
	yes(t, "Post", l.Post(0, told(21)))
	is(t, "Collect", collect(l), all(told(21), told(11)))
	yes(t, "Reply", l.Reply(answer(1)))
	is(t, "Answer of a CmdPublish", []any{answers(l, 1), l.Low()}, []any{noReply, 2})
	is(t, "what is to be filled in", []any{collect(l), l.Reply(answer(2))}, []any{no, false})
}

// P19.4
func TestLeft(t *testing.T) {
	l := log.New(config(3, 9))
	for at, kind := range []int{2, 5, 4, 7} {
		yes(t, "Take, Fill", l.Take(at, kind == 5), l.Fill(at, command(kind, at)))
	}
	yes(t, "Post, Leave", l.Post(0, told(1)), l.Post(1, told(2)), l.Leave(1), l.Leave(2))
	is(t, "Collect, where two have left", collect(l), all(told(1), told(2), api.Out{}))
	yes(t, "Reply", l.Reply(answer(0)), l.Post(0, told(3)))
	is(t, "a CmdClose, seen by all", []any{l.Cursor(0), collect(l), l.Reply(answer(1))}, []any{2, no, false})
	yes(t, "Post, Leave", l.Post(0, told(4)), l.Leave(0))
	is(t, "a CmdClose, all have left", collect(l), all(told(3), api.Out{}, api.Out{}))
	yes(t, "Reply", l.Reply(answer(1)))
	is(t, "behind it", []any{collect(l), l.Reply(answer(2)), collect(l), l.Reply(answer(3)), l.Low(), l.Reply(answer(4))},
		[]any{all(told(4), api.Out{}, api.Out{}), true, all(api.Out{}, api.Out{}, api.Out{}), true, 4, false})
	for at := range 4 {
		is(t, fmt.Sprint("Answer ", at), answers(l, at), []any{answer(at), true})
	}
}

// P19: the document's example
func TestExample(t *testing.T) {
	l := log.New(config(1, 1))
	is(t, "told", []any{l.Take(0, false), l.Take(1, false), l.Fill(0, command(4, 1)), collect(l), l.Post(0, told(1)), collect(l), l.Reply(answer(1)), l.Take(1, false)},
		[]any{true, false, true, no, true, all(told(1)), true, true})
}

// P19: what is kept is the log's own, and what is told the caller's
func TestNothingShared(t *testing.T) {
	l := log.New(config(1, 4))
	yes(t, "Take", l.Take(0, false))
	c, o, a := command(4, 1), told(1), answer(1)
	yes(t, "Fill", l.Fill(0, c))
	c.Table.Cells[0].Type = 77
	c, _ = l.Look(0)
	c.Table.Cells[0].Type = 77
	is(t, "Look", look(l, 0), []any{command(4, 1), true})
	yes(t, "Post", l.Post(0, o))
	o.Hits[0].Found.Sets[0][0], o.Ups[0].Gen = 77, 77
	outs, _ := l.Collect()
	outs[0].Hits[0].Found.Refs[0].Slot, outs[0].Lost[0], outs[0].Downs[0].Gen = 77, 77, 77
	is(t, "Collect", collect(l), all(told(1)))
	yes(t, "Reply", l.Reply(a))
	a.Matches[0][0][0] = 77
	is(t, "Answer", answers(l, 0), []any{answer(1), true})
}

// P19.5
func TestInTheirOrder(t *testing.T) {
	r := rand.New(rand.NewSource(19))
	for range 8 {
		shards, inbox := 1+r.Intn(3), 1+r.Intn(4)
		l := log.New(config(shards, inbox))
		taken, done := 0, 0
		filled := map[int]bool{}
		cursors := make([]int, shards)
		for range 6000 {
			switch at, w := done+r.Intn(inbox+1), r.Intn(shards); r.Intn(4) {
			case 0:
				ok := at == taken && taken < 100 && taken-done < inbox
				is(t, "Take", l.Take(at, false), ok)
				if ok {
					taken++
				}
			case 1:
				is(t, "Fill", l.Fill(at, command(4, at)), at < taken && !filled[at])
				filled[at] = at < taken
			case 2:
				ok := filled[cursors[w]]
				is(t, "Post", l.Post(w, told(100*w+cursors[w])), ok)
				if ok {
					cursors[w]++
				}
			case 3:
				ok := filled[done]
				want := []api.Out{}
				for w, at := range cursors {
					ok = ok && at > done
					want = append(want, told(100*w+done))
				}
				if !ok {
					is(t, "Collect", collect(l), no)
				} else {
					is(t, "Collect", collect(l), all(want...))
				}
				is(t, "Reply", l.Reply(answer(done)), ok)
				if ok {
					is(t, "Answer", answers(l, done), []any{answer(done), true})
					done++
				}
			}
			is(t, "Tail, Low", []any{tail(l), l.Low()}, []any{[]any{taken, false}, done})
		}
		is(t, "all stamps", []int{taken, done}, []int{100, done})
	}
}

func TestNil(t *testing.T) {
	var l *log.Log
	is(t, "a nil log", []any{l.Config(), tail(l), l.Low(), l.Take(0, false), l.Fill(0, command(1, 1)), look(l, 0), l.Cursor(0), l.Post(0, told(1)), l.Leave(0), collect(l), l.Reply(answer(1)), answers(l, 0), l.Store() == nil, l.Epochs() == nil},
		[]any{api.Config{}, []any{0, false}, 0, false, false, noneAt, -1, false, false, no, false, noReply, true, true})
}
