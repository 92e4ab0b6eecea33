package query

import (
	"slices"

	"sibyl/api"
	"sibyl/lex"
)

// row goes by one thing at a time.
type row[T any] struct {
	things []T
	at     int
}

func (r *row[T]) peek() (T, bool) {
	if r.at < len(r.things) {
		return r.things[r.at], true
	}
	var none T
	return none, false
}

// stop is what a parser panics with, where something stands that can't.
type stop struct {
	at  int
	err api.Errno
}

type parser struct {
	tokens row[api.Token]
	end    int
	nest   int
}

// Parse is the query that a text is, and its length; or the place where it can't go on.
func Parse(s string) (q api.Query, at int, err api.Errno) {
	l, at, err := lex.Lex(s)
	if err != api.OK {
		return api.Query{}, at, err
	}
	defer func() {
		if why, ok := recover().(stop); ok {
			q, at, err = api.Query{}, why.at, why.err
		}
	}()
	p := &parser{tokens: row[api.Token]{things: l}, end: len(s)}
	return p.query(), len(s), api.OK
}

func (p *parser) query() api.Query {
	var q api.Query
	p.want("seq")
	q.Elems = append(q.Elems, p.element())
	for p.has(",") {
		q.Elems = append(q.Elems, p.element())
	}
	if p.has("where") {
		q.Conds = append(q.Conds, p.condition())
		for p.has("and") {
			q.Conds = append(q.Conds, p.condition())
		}
	}
	p.want("within")
	q.Window = int(p.take(isInt).N)
	if p.has("by") {
		p.want("key")
		q.ByKey = true
	}
	if _, more := p.tokens.peek(); more {
		p.refuse()
	}
	return q
}

func (p *parser) element() api.Elem {
	var e api.Elem
	e.Not = p.has("!")
	e.Type = int(p.take(isType).N)
	e.Plus = p.has("+")
	e.Var = p.take(isName).Text
	return e
}

func (p *parser) condition() api.Cond {
	left := p.sum()
	op := slices.Index(holds(), p.take(isHold).Text)
	return api.Cond{Op: api.Eq + op, Left: left, Right: p.sum()}
}

func (p *parser) sum() []api.Code { return p.side(p.product, api.Add, api.Sub) }

func (p *parser) product() []api.Code { return p.side(p.unary, api.Mul, api.Rem) }

// side is what stands side by side, with signs of first to last between, from the left.
func (p *parser) side(part func() []api.Code, first, last int) []api.Code {
	l := part()
	for {
		t, _ := p.tokens.peek()
		op := api.Add + slices.Index(reckons(), t.Text)
		if op < first || op > last {
			return l
		}
		p.tokens.at++
		l = append(append(l, part()...), api.Code{Op: op})
	}
}

func (p *parser) unary() []api.Code {
	switch t := p.take(isUnary); {
	case t.Text == "-":
		return append(p.nested(t, p.unary), api.Code{Op: api.Neg})
	case t.Text == "(":
		l := p.nested(t, p.sum)
		p.want(")")
		return l
	case t.Text == "#":
		return []api.Code{{Op: api.Count, Var: p.take(isName).Text}}
	case t.Kind == api.TokInt:
		return []api.Code{{Op: api.Num, N: t.N}}
	default:
		p.want(".")
		n := slices.Index(letters(), p.take(isField).Text)
		return []api.Code{{Op: api.Field, Var: t.Text, Field: n}}
	}
}

// nested is a part that stands in a sign, or a bracket.
func (p *parser) nested(t api.Token, part func() []api.Code) []api.Code {
	if p.nest == api.MaxNest {
		panic(stop{t.At, api.ErrLimit})
	}
	p.nest++
	l := part()
	p.nest--
	return l
}

// take is the token that stands there, if it is one of those asked for.
func (p *parser) take(is func(api.Token) bool) api.Token {
	t, ok := p.tokens.peek()
	if !ok || !is(t) {
		p.refuse()
	}
	p.tokens.at++
	return t
}

func (p *parser) has(text string) bool {
	t, ok := p.tokens.peek()
	if ok = ok && t.Text == text; ok {
		p.tokens.at++
	}
	return ok
}

func (p *parser) want(text string) {
	if !p.has(text) {
		p.refuse()
	}
}

func (p *parser) refuse() {
	at := p.end
	if t, ok := p.tokens.peek(); ok {
		at = t.At
	}
	panic(stop{at, api.ErrSyntax})
}

func isInt(t api.Token) bool { return t.Kind == api.TokInt }

func isType(t api.Token) bool { return t.Kind == api.TokType }

func isHold(t api.Token) bool { return slices.Contains(holds(), t.Text) }

func isField(t api.Token) bool { return slices.Contains(letters(), t.Text) }

func isUnary(t api.Token) bool {
	return t.Text == "-" || t.Text == "(" || t.Text == "#" || t.Kind == api.TokInt || isName(t)
}
