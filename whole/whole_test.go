// Package whole has tests of what holds in all layers.
package whole

import (
	"fmt"
	"iter"
	"maps"
	"math"
	"math/rand"
	"reflect"
	"slices"
	"testing"

	"sibyl/api"
	"sibyl/chain"
	"sibyl/check"
	"sibyl/client"
	"sibyl/engine"
	"sibyl/epoch"
	"sibyl/lex"
	"sibyl/log"
	"sibyl/merger"
	"sibyl/model"
	"sibyl/num"
	"sibyl/pred"
	"sibyl/query"
	"sibyl/queue"
	"sibyl/ring"
	"sibyl/roll"
	"sibyl/route"
	"sibyl/runs"
	"sibyl/sense"
	"sibyl/shard"
	"sibyl/step"
	"sibyl/store"
	"sibyl/table"
	"sibyl/tuple"
	"sibyl/worker"
)

// maker makes arguments, most of which may not be.
type maker struct {
	*rand.Rand
	tables []api.Table
}

var (
	numbers = []int{0, 0, 1, 1, 2, 3, 4, 5, 6, 7, 8, 9, 15, 16, -1, -2, 40, 4096, 4097, 1 << 40, 1<<40 + 1, 1 << 62, math.MaxInt, math.MinInt}
	texts   = []string{
		"", "a", "b", "x", "seq", "A", "é", "a b", "?", "seq A a within 1", "seq A+ a, !C c, B b where b.x >= #a and c.y = a.x within 4 by key", "seq B b, A a within 3",
		"seq A a, B b where 1 / a.x = b.x within 8", "seq A a within 9", "seq A a, A a within 2", "seq A",
	}
)

func newMaker(seed int64) *maker {
	m := &maker{Rand: rand.New(rand.NewSource(seed))}
	for _, s := range texts {
		q, _, _ := query.Parse(s)
		if t, err := table.Make(q); err == api.OK {
			m.tables = append(m.tables, t)
		}
	}
	return m
}

func (m *maker) config() api.Config {
	n := func(most int) int { return 1 + m.Intn(most) }
	return api.Config{Shards: n(3), Inbox: n(5), Slots: n(5), Queries: n(3), Runs: n(5), Outputs: n(3), Stamps: n(50)}
}

func (m *maker) value(t reflect.Type) reflect.Value {
	v := reflect.New(t).Elem()
	switch t {
	case reflect.TypeFor[api.Table]():
		if m.Intn(2) == 0 {
			return reflect.ValueOf(m.tables[m.Intn(len(m.tables))])
		}
	case reflect.TypeFor[api.Config]():
		if m.Intn(3) > 0 {
			return reflect.ValueOf(m.config())
		}
	case reflect.TypeFor[*log.Log]():
		return reflect.ValueOf(log.New(m.config()))
	}
	switch t.Kind() {
	case reflect.Int, reflect.Int64:
		v.SetInt(int64(numbers[m.Intn(len(numbers))]))
	case reflect.String:
		v.SetString(texts[m.Intn(len(texts))])
	case reflect.Bool:
		v.SetBool(m.Intn(2) == 0)
	case reflect.Slice:
		for range m.Intn(4) {
			v = reflect.Append(v, m.value(t.Elem()))
		}
	case reflect.Array:
		for i := range v.Len() {
			v.Index(i).Set(m.value(t.Elem()))
		}
	case reflect.Struct:
		for i := range v.NumField() {
			v.Field(i).Set(m.value(t.Field(i).Type))
		}
	case reflect.Func:
		v = reflect.MakeFunc(t, func([]reflect.Value) []reflect.Value {
			var out []reflect.Value
			for i := range t.NumOut() {
				out = append(out, m.value(t.Out(i)))
			}
			return out
		})
	}
	return v
}

// call calls a function with arguments of any value, goes through what it tells one by one, and spoils the rest of what it tells.
func (m *maker) call(t *testing.T, what string, f reflect.Value) (out []reflect.Value) {
	t.Helper()
	var args []reflect.Value
	for i := range f.Type().NumIn() {
		args = append(args, m.value(f.Type().In(i)))
	}
	before := printed(args)
	defer func() {
		if why := recover(); why != nil {
			panic(fmt.Sprintf("%s of %v: %v", what, args, why))
		}
	}()
	if f.Type().IsVariadic() {
		out = f.CallSlice(args)
	} else {
		out = f.Call(args)
	}
	for _, v := range out {
		if v.Kind() != reflect.Func {
			spoil(v)
			continue
		}
		left := m.Intn(5)
		v.Call([]reflect.Value{reflect.MakeFunc(v.Type().In(0), func([]reflect.Value) []reflect.Value {
			left--
			return []reflect.Value{reflect.ValueOf(left > 0)}
		})})
	}
	if after := printed(args); after != before {
		t.Fatalf("%s of %s: that is %s behind it", what, before, after)
	}
	return out
}

// printed are arguments, but functions, and what is shared.
func printed(args []reflect.Value) string {
	s := ""
	for _, v := range args {
		if v.Kind() != reflect.Func && v.Kind() != reflect.Pointer {
			s += fmt.Sprintf("%+v; ", v)
		}
	}
	return s
}

// spoil changes what lies in rows that were told: that is the caller's.
func spoil(v reflect.Value) {
	switch v.Kind() {
	case reflect.Slice:
		for i := range v.Len() {
			spoil(v.Index(i))
		}
	case reflect.Struct:
		for i := range v.NumField() {
			spoil(v.Field(i))
		}
	case reflect.Int, reflect.Int64:
		if v.CanSet() {
			v.SetInt(v.Int() + 77)
		}
	case reflect.String:
		if v.CanSet() {
			v.SetString("spoilt")
		}
	}
}

// P1, R3: each call ends, and none panics, and what was handed in stays as it is, also where what was told is changed
func TestNoPanic(t *testing.T) {
	m := newMaker(1)
	calls := map[string]any{
		"num.Do": num.Do, "num.Test": num.Test, "num.Clamp": num.Clamp[int], "lex.Lex": lex.Lex, "lex.Each": lex.Each, "lex.Join": lex.Join,
		"query.Parse": query.Parse, "query.Print": query.Print, "query.Sound": query.Sound, "query.Name": query.Name,
		"check.Check": check.Check, "check.Names": check.Names, "check.Place": check.Place, "check.Rules": check.Rules,
		"pred.Eval": pred.Eval, "pred.Holds": pred.Holds, "pred.All": pred.All, "tuple.Compare": tuple.Compare, "tuple.Sort": tuple.Sort,
		"tuple.Flat": tuple.Flat, "tuple.Merge": tuple.Merge[int], "table.Make": table.Make, "table.Right": table.Right,
		"step.Start": step.Start, "step.Step": step.Step, "step.Done": step.Done, "step.Fits": step.Fits, "sense.Over": sense.Over, "sense.New": sense.New,
		"route.Mix": route.Mix, "route.Shard": route.Shard, "route.Owner": route.Owner, "log.Right": log.Right, "log.New": log.New, "client.Read": client.Read,
		"ring.New": ring.New[string], "store.New": store.New, "epoch.New": epoch.New, "runs.New": runs.New, "shard.New": shard.New, "queue.New": queue.New,
		"client.New": client.New, "worker.New": worker.New, "merger.New": merger.New, "model.New": model.New, "model.Linear": model.Linear,
	}
	for _, name := range slices.Sorted(maps.Keys(calls)) {
		for range 1500 {
			m.call(t, name, reflect.ValueOf(calls[name]))
		}
	}
}

// P1: so it is with what is made, whatever was called of it
func TestNoPanicOfWhatIsMade(t *testing.T) {
	for seed := range int64(150) {
		m := newMaker(seed)
		c := m.config()
		l := log.New(c)
		made := map[string]any{
			"sense": sense.New(m.tables[m.Intn(len(m.tables))]), "ring": ring.New[int](1 + m.Intn(4)), "store": store.New(1 + m.Intn(4)), "epoch": epoch.New(1 + m.Intn(3)),
			"chain": chain.New(), "runs": runs.New(m.tables[m.Intn(len(m.tables))], 1+m.Intn(9)), "shard": shard.New(c, 0), "queue": queue.New(c), "log": log.New(c),
			"client": client.New(l, m.value(reflect.TypeFor[api.Call]()).Interface().(api.Call)), "worker": worker.New(l, 0), "merger": merger.New(l), "model": model.New(c),
			"engine": engine.New(c, m.value(reflect.TypeFor[[]api.Call]()).Interface().([]api.Call)),
			"roll":   (*roll.Roll)(nil),
		}
		for _, name := range slices.Sorted(maps.Keys(made)) {
			v := reflect.ValueOf(made[name])
			for range 60 {
				k := m.Intn(v.NumMethod())
				out := m.call(t, name+"."+v.Type().Method(k).Name, v.Method(k))
				if name == "roll" && len(out) == 2 && out[0].Type() == v.Type() {
					v = out[0]
				}
			}
		}
	}
}

// R1: what is told one by one is never nil, and may be left off anywhere
func TestOneByOne(t *testing.T) {
	var none *roll.Roll
	var noRing *ring.Ring[int]
	var noChain *chain.Chain
	for name, s := range map[string]bool{
		"lex.Each": lex.Each("") == nil, "tuple.Merge": tuple.Merge(func(a, b int) bool { return a < b }) == nil, "ring.All": noRing.All() == nil,
		"ring.All of a new one": ring.New[int](1).All() == nil, "chain.Back": noChain.Back(0) == nil, "chain.Back of a new one": chain.New().Back(0) == nil, "roll.Live": none.Live(0) == nil,
	} {
		if s {
			t.Errorf("%s is nil", name)
		}
	}
	if l := tuple.All(iter.Seq[int](func(func(int) bool) {})); len(l) != 0 {
		t.Errorf("All of nothing: %v", l)
	}
	if l := slices.Collect(lex.Each("a b")); len(l) != 2 {
		t.Errorf("Each: %v", l)
	}
}
