// Package own has copies that share nothing with what they are copies of: for what is kept, and for what is told of it.
package own

import (
	"slices"

	"sibyl/api"
)

func each[T any](l []T, copied func(T) T) []T {
	if l == nil {
		return nil
	}
	fresh := make([]T, len(l))
	for i, x := range l {
		fresh[i] = copied(x)
	}
	return fresh
}

// Table is a copy of a table.
func Table(t api.Table) api.Table {
	t.Cells = each(t.Cells, func(c api.Cell) api.Cell {
		c.Rules = rules(c.Rules)
		c.Nots = each(c.Nots, func(g api.Guard) api.Guard {
			g.Rules = rules(g.Rules)
			return g
		})
		return c
	})
	return t
}

func rules(l []api.Rule) []api.Rule {
	return each(l, func(r api.Rule) api.Rule {
		r.Left, r.Right = slices.Clone(r.Left), slices.Clone(r.Right)
		return r
	})
}

// Matches are copies of matches.
func Matches(l [][][]int) [][][]int { return each(l, match) }

func match(sets [][]int) [][]int { return each(sets, slices.Clone[[]int]) }

// Found is a copy of what was found.
func Found(f api.Found) api.Found {
	return api.Found{Sets: match(f.Sets), Refs: slices.Clone(f.Refs)}
}

// Out is a copy of what a shard told.
func Out(o api.Out) api.Out {
	o.Hits = each(o.Hits, func(h api.Hit) api.Hit { return api.Hit{ID: h.ID, Found: Found(h.Found)} })
	o.Lost, o.Ups, o.Downs = slices.Clone(o.Lost), slices.Clone(o.Ups), slices.Clone(o.Downs)
	return o
}

// Command is a copy of a command.
func Command(c api.Command) api.Command {
	c.Table = Table(c.Table)
	return c
}

// Answer is a copy of an answer.
func Answer(a api.Answer) api.Answer {
	a.Matches = Matches(a.Matches)
	return a
}
