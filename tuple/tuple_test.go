package tuple_test

import (
	"fmt"
	"math/rand"
	"slices"
	"testing"

	"sibyl/tuple"
)

type match = [][]int

func is(t *testing.T, what string, got, want any) {
	t.Helper()
	if g, w := fmt.Sprint(got), fmt.Sprint(want); g != w {
		t.Errorf("%s: %s, want %s", what, g, w)
	}
}

// rising are matches, each of which is ahead of the next one.
var rising = []match{
	{}, {{}}, {{}, {}}, {{}, {0}}, {{-5}}, {{0}}, {{0}, {7}}, {{0, 1}}, {{0, 1}, {2}}, {{1}}, {{1}, {2}}, {{1}, {2}, {3}}, {{1}, {9}}, {{1, 2}, {3}}, {{1, 2, 3}}, {{10}},
}

// P6.1
func TestCompared(t *testing.T) {
	for i, a := range rising {
		for k, b := range rising {
			want := 0
			if i < k {
				want = -1
			} else if i > k {
				want = 1
			}
			is(t, fmt.Sprint("Compare of ", a, b), tuple.Compare(a, b), want)
		}
	}
	is(t, "Compare of nil", []int{tuple.Compare(nil, nil), tuple.Compare(nil, match{}), tuple.Compare(match{nil}, match{{}}), tuple.Compare(nil, match{nil})}, []int{0, 0, 0, -1})
	is(t, "Compare of far numbers", tuple.Compare(match{{-1 << 63}}, match{{1<<63 - 1}}), -1)
}

// P6.1
func TestSorted(t *testing.T) {
	r := rand.New(rand.NewSource(6))
	l := append(slices.Clone(rising), rising...)
	r.Shuffle(len(l), func(i, k int) { l[i], l[k] = l[k], l[i] })
	before := fmt.Sprint(l)
	var want []match
	for _, m := range rising {
		want = append(want, m, m)
	}
	got := tuple.Sort(l)
	is(t, "Sort", got, want)
	is(t, "what was handed in", l, before)
	got[len(got)-1][0][0] = 99
	is(t, "what was handed in, behind", l, before)
	is(t, "Sort of none", len(tuple.Sort(nil)), 0)
	is(t, "Sort of one", tuple.Sort([]match{{{2}}}), []match{{{2}}})
}

// P6.2
func TestFlat(t *testing.T) {
	is(t, "Flat", tuple.Flat(match{{3, 1}, {}, {2}, nil, {1, 1}}), []int{3, 1, 2, 1, 1})
	is(t, "Flat of none", len(tuple.Flat(nil))+len(tuple.Flat(match{{}, nil})), 0)
	a := match{{1, 2}}
	tuple.Flat(a)[0] = 9
	is(t, "what was handed in", a, match{{1, 2}})
}

type thing struct {
	n    int
	from string
}

func less(a, b thing) bool { return a.n < b.n }

// P6.3
func TestMerged(t *testing.T) {
	ints := func(a, b int) bool { return a < b }
	is(t, "two", tuple.All(tuple.Merge(ints, []int{1, 4}, []int{2, 4}, nil)), []int{1, 2, 4, 4})
	is(t, "none", len(tuple.All(tuple.Merge(ints))), 0)
	is(t, "empty ones", len(tuple.All(tuple.Merge(ints, nil, []int{}))), 0)
	is(t, "one, of no order", tuple.All(tuple.Merge(ints, []int{3, 1, 2})), []int{3, 1, 2})
	is(t, "of no order", tuple.All(tuple.Merge(ints, []int{3, 1}, []int{2, 5, 0})), []int{2, 3, 1, 5, 0})
	got := tuple.All(tuple.Merge(less, []thing{{2, "a"}, {2, "b"}}, []thing{{1, "c"}, {2, "d"}}, []thing{{2, "e"}, {3, "f"}}))
	is(t, "the same: the first rows' go first", got, []thing{{1, "c"}, {2, "a"}, {2, "b"}, {2, "d"}, {2, "e"}, {3, "f"}})
	// only some are less than others here: 1 than 9, but 5 is less than none, nor none less than it
	far := func(a, b int) bool { return b-a > 6 }
	is(t, "of a few that are less", tuple.All(tuple.Merge(far, []int{9, 1}, []int{5}, []int{1})), []int{5, 1, 9, 1})
	n := 0
	s := tuple.Merge(ints, []int{1, 3}, []int{2, 4})
	for x := range s {
		if n += x; x == 2 {
			break
		}
	}
	is(t, "left off", n, 3)
	is(t, "gone through anew", tuple.All(s), []int{1, 2, 3, 4})
}

// P6.3
func TestMergedOfAnyLess(t *testing.T) {
	for _, less := range []func(a, b int) bool{
		func(a, b int) bool { return true },
		func(a, b int) bool { return false },
		func(a, b int) bool { return a <= b },
		func(a, b int) bool { return (a+1)%3 == b%3 },
	} {
		n := 0
		for range tuple.Merge(less, []int{0, 1, 2}, []int{1, 2, 0}, []int{2, 0}) {
			if n++; n > 8 {
				t.Fatal("there is no end")
			}
		}
	}
}

// P6.3
func TestAll(t *testing.T) {
	is(t, "All", tuple.All(slices.Values([]string{"b", "a", "b"})), []string{"b", "a", "b"})
	is(t, "All of none", len(tuple.All(slices.Values([]int{}))), 0)
}

// P6.4
func TestMergedInOrder(t *testing.T) {
	r := rand.New(rand.NewSource(64))
	for range 200 {
		var rows [][]thing
		var all []thing
		for i := range r.Intn(6) {
			var row []thing
			for k := range r.Intn(8) {
				row = append(row, thing{r.Intn(10), fmt.Sprint(i, k)})
			}
			slices.SortStableFunc(row, func(a, b thing) int { return a.n - b.n })
			rows = append(rows, row)
			all = append(all, row...)
		}
		slices.SortStableFunc(all, func(a, b thing) int { return a.n - b.n })
		is(t, "merged", tuple.All(tuple.Merge(less, rows...)), all)
	}
}
