package shard_test

import (
	"cmp"
	"fmt"
	"math/rand"
	"slices"
	"testing"

	"sibyl/api"
	"sibyl/query"
	"sibyl/roll"
	"sibyl/route"
	"sibyl/shard"
	"sibyl/table"
)

func made(t *testing.T, s string) api.Table {
	t.Helper()
	q, at, err := query.Parse(s)
	if err != api.OK {
		t.Fatalf("%q: %d at %d", s, err, at)
	}
	m, err := table.Make(q)
	if err != api.OK {
		t.Fatalf("%q: %d", s, err)
	}
	return m
}

func is(t *testing.T, what string, got, want any) {
	t.Helper()
	if g, w := fmt.Sprintf("%+v", got), fmt.Sprintf("%+v", want); g != w {
		t.Errorf("%s: %s, want %s", what, g, w)
	}
}

func config(shards, queries, runs int) api.Config {
	return api.Config{Shards: shards, Queries: queries, Runs: runs}
}

func ref(n int) api.Ref { return api.Ref{Slot: n} }

// events lie at refs of their stamps.
type events map[api.Ref]api.Event

func (l events) get(r api.Ref) (api.Event, bool) {
	e, ok := l[r]
	return e, ok
}

func (l events) publish(s *shard.Shard, stamp int, e api.Event) api.Out {
	l[ref(stamp)] = e
	return s.Apply(stamp, api.Command{Kind: api.CmdPublish, Event: e, Ref: ref(stamp)}, l.get)
}

func (l events) register(t *testing.T, s *shard.Shard, stamp int, text string) {
	t.Helper()
	is(t, "Register", s.Apply(stamp, api.Command{Kind: api.CmdRegister, Table: made(t, text)}, l.get), api.Out{})
}

func (l events) unregister(s *shard.Shard, stamp, id int) api.Out {
	return s.Apply(stamp, api.Command{Kind: api.CmdUnregister, ID: id}, l.get)
}

func event(typ, key int) api.Event { return api.Event{Type: typ, Key: key} }

func hit(id int, refs []api.Ref, sets ...[]int) api.Hit {
	return api.Hit{ID: id, Found: api.Found{Sets: sets, Refs: refs}}
}

func refs(l ...int) (r []api.Ref) {
	for _, n := range l {
		r = append(r, ref(n))
	}
	return r
}

func sorted(l []api.Ref) []api.Ref {
	l = slices.Clone(l)
	slices.SortFunc(l, func(a, b api.Ref) int { return cmp.Compare(a.Slot, b.Slot) })
	return l
}

func ids(r *roll.Roll, at int) (l []int) {
	for e := range r.Live(at) {
		l = append(l, e.ID)
	}
	return l
}

// P17.1
func TestMade(t *testing.T) {
	for _, c := range []struct {
		config api.Config
		number int
		want   bool
	}{
		{config(1, 1, 1), 0, true}, {config(15, 4096, 4096), 14, true},
		{config(1, 1, 1), 1, false}, {config(1, 1, 1), -1, false}, {config(15, 1, 1), 15, false},
		{config(0, 1, 1), 0, false}, {config(16, 1, 1), 0, false}, {config(-1, 1, 1), 0, false}, {config(0, 1, 1), -1, false},
		{config(1, 0, 1), 0, false}, {config(1, 4097, 1), 0, false}, {config(1, -1, 1), 0, false},
		{config(1, 1, 0), 0, false}, {config(1, 1, 4097), 0, false}, {config(1, 1, -1), 0, false},
	} {
		is(t, fmt.Sprint("New of ", c.config, c.number), shard.New(c.config, c.number) != nil, c.want)
	}
	s := shard.New(config(1, 1, 1), 0)
	is(t, "a new one", []int{s.Runs(), s.Misses(), s.Roll().Len(9)}, []int{0, 0, 0})
}

// P17.2: the document's example
func TestExample(t *testing.T) {
	l := events{}
	s := shard.New(config(1, 9, 9), 0)
	l.register(t, s, 1, "seq A a within 1")
	out := l.publish(s, 2, event(0, 0))
	is(t, "Publish", out, api.Out{Hits: []api.Hit{hit(1, refs(2), []int{2})}, Ups: refs(2)})
}

// P17.2
func TestRegistered(t *testing.T) {
	l := events{}
	s := shard.New(config(1, 2, 9), 0)
	l.register(t, s, 0, "seq A a within 1")
	e, ok := s.Roll().Find(0)
	is(t, "its entry", []any{e, ok}, []any{api.Entry{ID: 0, To: -1, Table: made(t, "seq A a within 1")}, true})
	is(t, "a table that is not right", s.Apply(1, api.Command{Kind: api.CmdRegister}, l.get), api.Out{})
	is(t, "ids", ids(s.Roll(), 9), []int{0})
	l.register(t, s, 3, "seq A a within 1")
	l.register(t, s, 5, "seq A a within 1")
	is(t, "one too many", ids(s.Roll(), 9), []int{0, 3})
	l.unregister(s, 6, 0)
	l.register(t, s, 7, "seq B b within 1")
	is(t, "one more, behind one's end", ids(s.Roll(), 9), []int{3, 7})
	l.register(t, s, 8, "seq B b within 1")
	is(t, "and one too many", ids(s.Roll(), 9), []int{3, 7})
}

// P17.2
func TestUnregistered(t *testing.T) {
	l := events{}
	s := shard.New(config(1, 9, 9), 0)
	l.register(t, s, 0, "seq A+ a, B b within 4")
	l.register(t, s, 1, "seq A a, B b within 4")
	l.publish(s, 2, event(0, 0))
	l.publish(s, 3, event(0, 0))
	is(t, "Runs", s.Runs(), 5)
	for _, id := range []int{-1, 2, 4, 9} {
		is(t, fmt.Sprint("of ", id), l.unregister(s, 4+max(id, 0), id), api.Out{})
	}
	out := l.unregister(s, 20, 0)
	is(t, "its Downs", sorted(out.Downs), refs(2, 3, 3))
	is(t, "nothing else", []int{len(out.Ups), len(out.Hits), len(out.Lost), s.Runs()}, []int{0, 0, 0, 2})
	e, _ := s.Roll().Find(0)
	is(t, "its end", e.To, 20)
	is(t, "again", l.unregister(s, 21, 0), api.Out{})
	is(t, "it is fed no more", []any{len(l.publish(s, 22, event(1, 0)).Hits), s.Runs()}, []any{2, 2})
}

// P17.2
func TestPublished(t *testing.T) {
	l := events{}
	s := shard.New(config(1, 9, 9), 0)
	for id, text := range []string{"seq A a, B b within 3", "seq B b within 1", "seq A+ a, B b within 3"} {
		l.register(t, s, id, text)
	}
	l.publish(s, 3, event(0, 0))
	l.publish(s, 5, event(0, 0))
	out := l.publish(s, 7, event(1, 0))
	is(t, "Hits", out.Hits, []api.Hit{
		hit(0, refs(3, 7), []int{3}, []int{7}), hit(0, refs(5, 7), []int{5}, []int{7}), hit(1, refs(7), []int{7}),
		hit(2, refs(3, 7), []int{3}, []int{7}), hit(2, refs(3, 5, 7), []int{3, 5}, []int{7}), hit(2, refs(5, 7), []int{5}, []int{7}),
	})
	is(t, "Ups", sorted(out.Ups), refs(3, 3, 3, 5, 5, 5, 7, 7, 7, 7, 7, 7))
	is(t, "Downs", []int{len(out.Downs), len(out.Lost)}, []int{0, 0})
	is(t, "Downs, later", sorted(l.publish(s, 8, event(7, 0)).Downs), refs(3, 3, 5))
}

// P17.2
func TestLost(t *testing.T) {
	l := events{}
	s := shard.New(config(1, 9, 2), 0)
	for id, text := range []string{"seq A+ a, B b within 8", "seq A a, B b within 8", "seq A+ a, C b within 8"} {
		l.register(t, s, id, text)
	}
	l.publish(s, 3, event(0, 0))
	out := l.publish(s, 4, event(0, 0))
	is(t, "Lost", []any{out.Lost, sorted(out.Downs), sorted(out.Ups)}, []any{[]int{0, 2}, refs(3, 3), refs(4)})
	is(t, "Runs", s.Runs(), 2)
	out = l.publish(s, 5, event(1, 0))
	is(t, "from then on", []any{len(out.Lost), out.Hits}, []any{0, []api.Hit{hit(1, refs(3, 5), []int{3}, []int{5}), hit(1, refs(4, 5), []int{4}, []int{5})}})
	is(t, "the end of what is lost", l.unregister(s, 6, 0), api.Out{})
	is(t, "lives", ids(s.Roll(), 7), []int{1, 2})
}

// P17.2
func TestStampsRise(t *testing.T) {
	l := events{}
	s := shard.New(config(1, 9, 9), 0)
	l.register(t, s, 4, "seq A a within 1")
	for _, stamp := range []int{4, 3, 0, -1, -1 << 63} {
		l.register(t, s, stamp, "seq A a within 1")
		is(t, "Publish", l.publish(s, stamp, event(0, 0)), api.Out{})
		is(t, "Unregister", l.unregister(s, stamp, 4), api.Out{})
	}
	is(t, "ids", ids(s.Roll(), 99), []int{4})
	is(t, "Publish", len(l.publish(s, 5, event(0, 0)).Hits), 1)
	for i, kind := range []int{api.CmdPoll, api.CmdClose, 0, 6, -1} {
		is(t, fmt.Sprint("kind ", kind), s.Apply(6+i, api.Command{Kind: kind, ID: 4, N: 1, Event: event(0, 0), Table: made(t, "seq A a within 1")}, l.get), api.Out{})
	}
	is(t, "Publish of a stamp that was there", l.publish(s, 10, event(0, 0)), api.Out{})
	is(t, "ids", ids(s.Roll(), 99), []int{4})
	is(t, "Publish", len(l.publish(s, 11, event(0, 0)).Hits), 1)
}

// P17.3
func TestAsked(t *testing.T) {
	l := events{}
	s := shard.New(config(1, 9, 9), 0)
	l.register(t, s, 0, "seq A a, B b within 8")
	l.register(t, s, 1, "seq C c, D d within 8")
	for i, typ := range []int{0, 0, 2} {
		l.publish(s, 2+i, event(typ, 0))
	}
	is(t, "Runs, Misses", []int{s.Runs(), s.Misses()}, []int{3, 0})
	clear(l)
	l.publish(s, 9, event(3, 0))
	is(t, "Misses", s.Misses() >= 3, true)
}

// P17.4
func TestAllShards(t *testing.T) {
	texts := []string{
		"seq A+ a, B b within 4 by key", "seq A a, B b within 3", "seq A+ a, !C c, B b where b.x >= a.x within 6 by key",
		"seq A a within 1 by key", "seq B+ b, A a within 5",
	}
	r := rand.New(rand.NewSource(17))
	for _, n := range []int{1, 2, 3, 7, 15} {
		l := events{}
		one := shard.New(config(1, 4, 4096), 0)
		var many []*shard.Shard
		for i := range n {
			many = append(many, shard.New(config(n, 4, 4096), i))
		}
		for stamp := range 250 {
			c := api.Command{Kind: api.CmdPublish, Event: api.Event{Type: r.Intn(3), Key: r.Intn(9) - 4, Nums: [4]int64{r.Int63n(3)}}, Ref: ref(stamp)}
			switch r.Intn(12) {
			case 0:
				c = api.Command{Kind: api.CmdRegister, Table: made(t, texts[r.Intn(len(texts))])}
			case 1:
				c = api.Command{Kind: api.CmdUnregister, ID: r.Intn(stamp + 1)}
			}
			l[ref(stamp)] = c.Event
			want := one.Apply(stamp, c, l.get)
			var got api.Out
			owners := map[int]int{}
			for i, s := range many {
				out := s.Apply(stamp, c, l.get)
				for _, h := range out.Hits {
					if at, ok := owners[h.ID]; ok && at != i {
						t.Fatalf("%d, and %d, tell of %d", at, i, h.ID)
					}
					owners[h.ID] = i
					e, _ := s.Roll().Find(h.ID)
					is(t, "owner", route.Owner(e.Table.ByKey, h.ID, c.Event.Key, n), i)
				}
				got.Hits = append(got.Hits, out.Hits...)
				got.Ups = append(got.Ups, out.Ups...)
				got.Downs = append(got.Downs, out.Downs...)
				is(t, "Roll", ids(s.Roll(), stamp+1), ids(one.Roll(), stamp+1))
			}
			slices.SortStableFunc(got.Hits, func(a, b api.Hit) int { return a.ID - b.ID })
			is(t, "Hits", got.Hits, want.Hits)
			is(t, "Ups", sorted(got.Ups), sorted(want.Ups))
			is(t, "Downs", sorted(got.Downs), sorted(want.Downs))
			runs := 0
			for _, s := range many {
				runs += s.Runs()
			}
			is(t, "Runs", runs, one.Runs())
		}
	}
}

func TestNil(t *testing.T) {
	var s *shard.Shard
	is(t, "a nil shard", []any{s.Apply(1, api.Command{Kind: api.CmdRegister}, events{}.get), s.Runs(), s.Misses(), s.Roll() == nil}, []any{api.Out{}, 0, 0, true})
}
