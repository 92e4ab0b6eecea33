package query

import (
	"strconv"
	"strings"

	"sibyl/api"
)

// How closely the parts of a reckoning hold.
const (
	sums = iota
	products
	singles
)

// part is a text in pieces, so that it grows at both ends without being copied.
type part struct {
	first, last *piece
	hold        int
}

type piece struct {
	text string
	next *piece
}

func single(text string) part {
	p := &piece{text: text}
	return part{p, p, singles}
}

// join is one part behind another one; it holds as closely as told.
func join(a, b part, hold int) part {
	a.last.next = b.first
	return part{a.first, b.last, hold}
}

// least is a part that holds at least so closely, in brackets if it must.
func least(p part, hold int) part {
	if p.hold >= hold {
		return p
	}
	return join(join(single("("), p, singles), single(")"), singles)
}

// Print is the text of a query; nothing, if it has none.
func Print(q api.Query) string {
	var b strings.Builder
	if len(q.Elems) == 0 || q.Window < 0 {
		return ""
	}
	for i, e := range q.Elems {
		b.WriteString(ahead(i, "seq ", ", "))
		if !element(&b, e) {
			return ""
		}
	}
	for i, c := range q.Conds {
		b.WriteString(ahead(i, " where ", " and "))
		if !condition(&b, c) {
			return ""
		}
	}
	b.WriteString(" within ")
	b.WriteString(strconv.Itoa(q.Window))
	if q.ByKey {
		b.WriteString(" by key")
	}
	return b.String()
}

func ahead(i int, first, other string) string {
	if i == 0 {
		return first
	}
	return other
}

func element(b *strings.Builder, e api.Elem) bool {
	if e.Type < 0 || e.Type >= api.Types || !Name(e.Var) {
		return false
	}
	if e.Not {
		b.WriteByte('!')
	}
	b.WriteByte(byte('A' + e.Type))
	if e.Plus {
		b.WriteByte('+')
	}
	b.WriteByte(' ')
	b.WriteString(e.Var)
	return true
}

func condition(b *strings.Builder, c api.Cond) bool {
	if c.Op < api.Eq || c.Op > api.Ge || !sum(b, c.Left) {
		return false
	}
	b.WriteByte(' ')
	b.WriteString(holds()[c.Op-api.Eq])
	b.WriteByte(' ')
	return sum(b, c.Right)
}

// sum prints codes, and tells whether they are sound.
func sum(b *strings.Builder, l []api.Code) bool {
	var parts []part
	take := func() part {
		p := parts[len(parts)-1]
		parts = parts[:len(parts)-1]
		return p
	}
	put := func(p part) { parts = append(parts, p) }
	sound := true
codes:
	for _, c := range l {
		takes, ok := needs(c)
		switch {
		case !ok || len(parts) < takes:
			sound = false
			break codes
		case takes == 0:
			put(single(leaf(c)))
		case takes == 1:
			put(join(single("-"), least(take(), singles), singles))
		default:
			right, left := take(), take()
			put(both(c.Op, left, right))
		}
	}
	if !sound || len(parts) != 1 {
		return false
	}
	for p := parts[0].first; p != nil; p = p.next {
		b.WriteString(p.text)
	}
	return true
}

// both is two things with a sign between; the right one must hold closer than the whole, since what stands side by side goes from the left.
func both(op int, left, right part) part {
	hold := sums
	if op >= api.Mul {
		hold = products
	}
	sign := single(" " + reckons()[op-api.Add] + " ")
	return join(join(least(left, hold), sign, hold), least(right, hold+1), hold)
}

func leaf(c api.Code) string {
	switch c.Op {
	case api.Num:
		return strconv.FormatInt(c.N, 10)
	case api.Count:
		return "#" + c.Var
	}
	return c.Var + "." + letters()[c.Field]
}
