package model

import (
	"cmp"
	"math"
	"slices"

	"sibyl/api"
	"sibyl/limits"
)

// Linear tells whether what calls were told is what a model tells of them, in some order that they may have had.
func Linear(c api.Config, calls ...api.Done) bool {
	if !limits.Right(c) {
		return false
	}
	stamped := those(calls, hasStamp)
	slices.SortFunc(stamped, func(a, b api.Done) int { return cmp.Compare(a.Stamp, b.Stamp) })
	return each(stamped) && behind(stamped) && meant(c, stamped) && refused(c, calls)
}

func hasStamp(d api.Done) bool { return d.Stamp >= 0 }

func hasEnded(d api.Done) bool { return d.To >= 0 }

func those(calls []api.Done, are func(d api.Done) bool) []api.Done {
	var l []api.Done
	for _, d := range calls {
		if are(d) {
			l = append(l, d)
		}
	}
	return l
}

// each tells whether each stamp was taken once, from 0 on.
func each(stamped []api.Done) bool {
	for i, d := range stamped {
		if d.Stamp != i {
			return false
		}
	}
	return true
}

// behind tells whether no call has a greater stamp than one that was begun once it had ended.
func behind(stamped []api.Done) bool {
	latest := math.MinInt
	for _, d := range stamped {
		if hasEnded(d) && d.To < latest {
			return false
		}
		latest = max(latest, d.From)
	}
	return true
}

// meant tells whether each call that has ended was told what a model tells.
func meant(c api.Config, stamped []api.Done) bool {
	m := New(c)
	for _, d := range stamped {
		if a := m.Do(d.Stamp, d.Call); hasEnded(d) && !same(a, d.Answer) {
			return false
		}
	}
	return true
}

func same(a, b api.Answer) bool {
	sets := func(a, b [][]int) bool { return slices.EqualFunc(a, b, slices.Equal[[]int]) }
	return a.Err == b.Err && a.N == b.N && slices.EqualFunc(a.Matches, b.Matches, sets)
}

// refused tells whether each call that ended without a stamp may have been told what it was.
func refused(c api.Config, calls []api.Done) bool {
	ahead := func(are func(d api.Done) bool) func(to int) int { return begun(those(calls, are)) }
	takers := ahead(hasStamp)
	closers := ahead(func(d api.Done) bool { return hasStamp(d) && d.Call.Kind == api.CmdClose })
	publishers := ahead(func(d api.Done) bool { return d.Call.Kind == api.CmdPublish })
	may := func(d api.Done) bool {
		switch d.Answer.Err {
		case api.ErrClosed:
			return d.Call.Kind != api.CmdPoll && closers(d.To) > 0
		case api.ErrOver:
			return takers(d.To) >= c.Stamps
		case api.ErrFull:
			return takers(d.To) >= c.Inbox || d.Call.Kind == api.CmdPublish && others(d, publishers(d.To)) >= c.Slots
		}
		return false
	}
	for _, d := range calls {
		if hasStamp(d) || !hasEnded(d) {
			continue
		}
		_, want := read(d.Call)
		if want.Err == api.OK && may(d) {
			want.Err = d.Answer.Err
		}
		if want.Err == api.OK || !same(want, d.Answer) {
			return false
		}
	}
	return true
}

// begun tells how many of some calls were begun ahead of a step.
func begun(l []api.Done) func(to int) int {
	var froms []int
	for _, d := range l {
		froms = append(froms, d.From)
	}
	slices.Sort(froms)
	return func(to int) int {
		n, _ := slices.BinarySearch(froms, to)
		return n
	}
}

// others is how many of n calls are not this one, which is one of them, if it was begun ahead of its end.
func others(d api.Done, n int) int {
	if d.From < d.To {
		return n - 1
	}
	return n
}
