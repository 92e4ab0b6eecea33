package queue_test

import (
	"fmt"
	"maps"
	"math/rand"
	"slices"
	"testing"

	"sibyl/api"
	"sibyl/queue"
)

func is(t *testing.T, what string, got, want any) {
	t.Helper()
	if g, w := fmt.Sprintf("%+v", got), fmt.Sprintf("%+v", want); g != w {
		t.Errorf("%s: %s, want %s", what, g, w)
	}
}

func config(queries, outputs int) api.Config { return api.Config{Queries: queries, Outputs: outputs} }

func ref(n int) api.Ref { return api.Ref{Slot: n, Gen: n + 1} }

func refs(l ...int) []api.Ref {
	out := []api.Ref{}
	for _, n := range l {
		out = append(out, ref(n))
	}
	return out
}

// hit is a match of numbers, each a set of its own, that lie at refs of these.
func hit(id int, numbers ...int) api.Hit {
	var f api.Found
	for _, n := range numbers {
		f.Sets = append(f.Sets, []int{n})
		f.Refs = append(f.Refs, ref(n))
	}
	return api.Hit{ID: id, Found: f}
}

func out(hits ...api.Hit) api.Out { return api.Out{Hits: hits} }

func ok(n int, matches ...[][]int) api.Answer { return api.Answer{N: n, Matches: matches} }

func fails(err api.Errno) api.Answer { return api.Answer{Err: err} }

func match(numbers ...int) (m [][]int) {
	for _, n := range numbers {
		m = append(m, []int{n})
	}
	return m
}

func register(t *testing.T, d *queue.Desk, stamp int) {
	t.Helper()
	a, gone := d.Do(stamp, api.Command{Kind: api.CmdRegister})
	is(t, fmt.Sprint("Register at ", stamp), []any{a, len(gone)}, []any{ok(stamp), 0})
}

func does(t *testing.T, d *queue.Desk, stamp int, c api.Command, want api.Answer, gone []api.Ref, outs ...api.Out) {
	t.Helper()
	a, got := d.Do(stamp, c, outs...)
	is(t, fmt.Sprint("answer at ", stamp), a, want)
	is(t, fmt.Sprint("what is let go at ", stamp), append([]api.Ref{}, got...), append([]api.Ref{}, gone...))
}

func publish(n int) api.Command  { return api.Command{Kind: api.CmdPublish, Ref: ref(n)} }
func poll(id, n int) api.Command { return api.Command{Kind: api.CmdPoll, ID: id, N: n} }
func end(id int) api.Command     { return api.Command{Kind: api.CmdUnregister, ID: id} }

// P18.1
func TestMade(t *testing.T) {
	for c, want := range map[[2]int]bool{
		{1, 1}: true, {4096, 4096}: true, {0, 1}: false, {1, 0}: false, {-1, 1}: false, {1, -1}: false, {4097, 1}: false, {1, 4097}: false,
	} {
		is(t, fmt.Sprint("New of ", c), queue.New(config(c[0], c[1])) != nil, want)
	}
	d := queue.New(config(1, 1))
	is(t, "a new one", []any{d.Live(), d.Held(), d.Waiting(0), d.Lost(0)}, []any{0, 0, 0, false})
}

// P18.2
func TestRegistered(t *testing.T) {
	d := queue.New(config(2, 9))
	register(t, d, 3)
	register(t, d, 0)
	does(t, d, 5, api.Command{Kind: api.CmdRegister}, fails(api.ErrFull), nil)
	is(t, "Live", d.Live(), 2)
	does(t, d, 6, end(4), fails(api.ErrNone), nil)
	does(t, d, 6, end(5), fails(api.ErrNone), nil)
	does(t, d, 6, end(3), ok(0), nil)
	does(t, d, 6, end(3), fails(api.ErrNone), nil)
	is(t, "Live", d.Live(), 1)
	register(t, d, 7)
	is(t, "Live", d.Live(), 2)
}

// P18.2
func TestUnregistered(t *testing.T) {
	d := queue.New(config(9, 9))
	register(t, d, 0)
	register(t, d, 1)
	does(t, d, 2, publish(50), ok(2), refs(50), out(hit(0, 10, 11), hit(1, 12), hit(1, 13)))
	does(t, d, 3, publish(51), ok(3), refs(51), out(hit(0, 11, 10)))
	does(t, d, 4, end(0), ok(0), refs(10, 11, 11, 10))
	is(t, "left", []any{d.Live(), d.Held(), d.Waiting(0), d.Waiting(1)}, []any{1, 2, 0, 2})
	does(t, d, 5, poll(0, 1), fails(api.ErrNone), nil)
	does(t, d, 6, publish(52), ok(6), refs(14, 52), out(hit(0, 14)))
}

// P18.2
func TestPublished(t *testing.T) {
	d := queue.New(config(9, 3))
	for id := range 3 {
		register(t, d, id)
	}
	does(t, d, 3, publish(50), ok(3), refs(50))
	a, b := out(hit(0, 10), hit(2, 11), hit(2, 12)), out(hit(0, 20), hit(1, 21), hit(2, 22))
	does(t, d, 4, publish(51), ok(4), refs(51), a, api.Out{}, b)
	is(t, "Waiting", []int{d.Waiting(0), d.Waiting(1), d.Waiting(2), d.Held()}, []int{2, 1, 3, 6})
	// 0 has room for one of two: it is lost then, and 2 for none; 7 is none; 1 comes last, and has room
	a, b = out(hit(0, 30), hit(0, 31), hit(2, 32), hit(7, 33, 34)), out(hit(0, 40), hit(1, 41))
	does(t, d, 5, publish(52), ok(5), refs(31, 40, 32, 33, 34, 52), a, b)
	is(t, "Lost", []bool{d.Lost(0), d.Lost(1), d.Lost(2), d.Lost(7)}, []bool{true, false, true, false})
	does(t, d, 6, poll(2, 2), ok(0, match(11), match(12)), refs(11, 12))
	does(t, d, 7, publish(53), ok(7), refs(35, 53), out(hit(1, 42), hit(2, 35)))
	does(t, d, 8, poll(0, 9), ok(0, match(10), match(20), match(30)), refs(10, 20, 30))
	does(t, d, 9, poll(1, 9), ok(0, match(21), match(41), match(42)), refs(21, 41, 42))
	does(t, d, 10, poll(2, 9), ok(0, match(22)), refs(22))
	does(t, d, 11, poll(2, 9), fails(api.ErrLost), nil)
	is(t, "at rest", []int{d.Held(), d.Live()}, []int{0, 3})
}

// P18.2
func TestLostByShards(t *testing.T) {
	d := queue.New(config(9, 9))
	register(t, d, 0)
	register(t, d, 1)
	does(t, d, 2, publish(50), ok(2), refs(50), api.Out{Hits: []api.Hit{hit(0, 1)}, Lost: []int{0, 5}}, api.Out{Hits: []api.Hit{hit(0, 2)}})
	is(t, "Lost, behind the hits", []any{d.Lost(0), d.Lost(1), d.Lost(5), d.Waiting(0)}, []any{true, false, false, 2})
	does(t, d, 3, publish(51), ok(3), refs(3, 51), out(hit(0, 3)))
	does(t, d, 4, poll(0, 1), ok(0, match(1)), refs(1))
	does(t, d, 5, poll(0, 1), ok(0, match(2)), refs(2))
	does(t, d, 6, poll(0, 1), fails(api.ErrLost), nil)
	does(t, d, 7, end(0), ok(0), nil)
	is(t, "Lost, behind its end", d.Lost(0), false)
}

// P18.2
func TestPolled(t *testing.T) {
	d := queue.New(config(9, 9))
	register(t, d, 4)
	does(t, d, 5, poll(4, 1), ok(0), nil)
	does(t, d, 5, poll(3, 1), fails(api.ErrNone), nil)
	for _, n := range []int{0, -1, -1 << 63} {
		does(t, d, 5, poll(4, n), fails(api.ErrArg), nil)
		does(t, d, 5, poll(3, n), fails(api.ErrArg), nil)
	}
	does(t, d, 6, publish(50), ok(6), refs(50), out(hit(4, 1), hit(4, 2, 2), hit(4, 3)))
	does(t, d, 7, poll(4, 2), ok(0, match(1), match(2, 2)), refs(1, 2, 2))
	does(t, d, 8, poll(4, 1<<63-1), ok(0, match(3)), refs(3))
	does(t, d, 9, poll(4, 1), ok(0), nil)
}

// P18.2
func TestOtherKinds(t *testing.T) {
	d := queue.New(config(9, 9))
	does(t, d, 5, api.Command{Kind: api.CmdClose, Ref: ref(1)}, ok(5), nil)
	for _, kind := range []int{0, 6, -1, 1 << 40} {
		does(t, d, 6, api.Command{Kind: kind, Ref: ref(1), N: 1}, fails(api.ErrArg), nil)
	}
}

// P18: the document's example
func TestExample(t *testing.T) {
	d := queue.New(config(1, 1))
	register(t, d, 1)
	does(t, d, 2, publish(50), ok(2), refs(8, 9, 50), out(hit(1, 7), hit(1, 8, 9)))
	does(t, d, 3, poll(1, 5), ok(0, match(7)), refs(7))
	does(t, d, 4, poll(1, 5), fails(api.ErrLost), nil)
}

// P18.3: what is kept is the desk's own, and what is told the caller's
func TestNothingShared(t *testing.T) {
	d := queue.New(config(1, 9))
	register(t, d, 0)
	h := hit(0, 1, 2)
	does(t, d, 1, publish(50), ok(1), refs(50), out(h))
	h.Found.Sets[0][0], h.Found.Refs[0].Slot = 77, 77
	does(t, d, 2, poll(0, 1), ok(0, match(1, 2)), refs(1, 2))
}

// P18.3, P18.4
func TestHeldOnce(t *testing.T) {
	r := rand.New(rand.NewSource(18))
	d := queue.New(config(3, 4))
	held := map[int]int{}      // refs that came, and were not let go
	waits := map[int][][]int{} // what waits, by ids
	lost := map[int]bool{}
	next := 0
	for stamp := range 3000 {
		gone := []api.Ref{}
		switch id := r.Intn(stamp + 1); r.Intn(8) {
		case 0:
			a, _ := d.Do(stamp, api.Command{Kind: api.CmdRegister})
			if a.Err == api.OK {
				waits[stamp] = nil
			}
			is(t, "Register", a.Err == api.OK, len(waits) <= 3 && has(waits, stamp))
		case 1:
			if r.Intn(4) > 0 {
				break
			}
			if l := slices.Sorted(maps.Keys(waits)); len(l) > 0 {
				id = l[r.Intn(len(l))]
			}
			_, gone = d.Do(stamp, end(id))
			delete(waits, id)
			delete(lost, id)
		case 2:
			if l := slices.Sorted(maps.Keys(waits)); len(l) > 0 {
				id = l[r.Intn(len(l))]
			}
			n := 1 + r.Intn(3)
			var a api.Answer
			a, gone = d.Do(stamp, poll(id, n))
			if !has(waits, id) {
				is(t, "Poll of none", a, fails(api.ErrNone))
				break
			}
			if len(waits[id]) == 0 && lost[id] {
				is(t, "Poll of a lost one", a, fails(api.ErrLost))
				break
			}
			n = min(n, len(waits[id]))
			var want [][][]int
			for _, m := range waits[id][:n] {
				want = append(want, match(m...))
			}
			is(t, "Poll", a, ok(0, want...))
			waits[id] = waits[id][n:]
		default:
			var outs []api.Out
			for range 3 {
				var o api.Out
				for id := range stamp {
					if (has(waits, id) || r.Intn(200) == 0) && r.Intn(2) == 0 {
						o.Hits = append(o.Hits, hit(id, next, next+1))
						held[next], held[next+1] = 1, 1
						next += 2
					}
				}
				outs = append(outs, o)
			}
			for id := range stamp {
				for _, o := range outs {
					for _, h := range o.Hits {
						if h.ID != id || !has(waits, id) || lost[id] {
							continue
						}
						if lost[id] = len(waits[id]) == 4; !lost[id] {
							waits[id] = append(waits[id], []int{h.Found.Sets[0][0], h.Found.Sets[1][0]})
						}
					}
				}
			}
			held[-5]++
			_, gone = d.Do(stamp, publish(-5), outs...)
		}
		for _, x := range gone {
			if held[x.Slot]--; held[x.Slot] < 0 {
				t.Fatalf("%v is let go twice", x)
			}
		}
		var want, got []int
		for _, l := range waits {
			for _, m := range l {
				want = append(want, m...)
			}
		}
		for n, count := range held {
			if count > 0 {
				got = append(got, n)
			}
		}
		slices.Sort(want)
		slices.Sort(got)
		is(t, "what is held", got, want)
		is(t, "Held, Live", []int{d.Held(), d.Live()}, []int{len(want), len(waits)})
		for id, l := range waits {
			is(t, "Waiting, Lost", []any{d.Waiting(id), d.Lost(id)}, []any{len(l), lost[id]})
		}
		for n, count := range held {
			if count == 0 {
				delete(held, n)
			}
		}
	}
}

func has(m map[int][][]int, id int) bool {
	_, ok := m[id]
	return ok
}

func TestNil(t *testing.T) {
	var d *queue.Desk
	a, gone := d.Do(1, publish(1), out(hit(0, 1)))
	is(t, "a nil desk", []any{a, len(gone), d.Waiting(0), d.Held(), d.Live(), d.Lost(0)}, []any{fails(api.ErrArg), 0, 0, 0, 0, false})
}
