package lang

import (
	"slices"
	"strings"

	"concierge/api"
	"concierge/names"
)

// parser reads a schema. Where the grammar cannot continue, or an expression is too deep, its methods panic with an api.Diag, which Parse recovers.
type parser struct {
	tokenizer
	open int // how many ( are not closed yet
}

// fail ends the reading with an error at an index of the text.
func (p *parser) fail(at int, e api.Errno) {
	line, col := p.position(at)
	panic(api.Diag{Line: line, Col: col, E: e})
}

// accept goes on behind a token if it is the current one, and reports whether it was.
func (p *parser) accept(token string) bool {
	if p.token() != token {
		return false
	}
	p.next()
	return true
}

// expect goes on behind a token, which has to be the current one.
func (p *parser) expect(token string) {
	if !p.accept(token) {
		p.fail(p.from, api.ErrToken)
	}
}

// name reads a name.
func (p *parser) name() string {
	name := strings.Clone(p.token()) // a piece of the text would share its memory
	if !names.Name(name) {
		p.fail(p.from, api.ErrToken)
	}
	p.next()
	return name
}

// schema reads all of the text.
func (p *parser) schema() api.Schema {
	var s api.Schema
	for p.accept(wordType) {
		s.Types = append(s.Types, p.typ())
	}
	p.expect(end)
	return s
}

// typ reads what stands behind the word of a type.
func (p *parser) typ() api.Type {
	t := api.Type{Name: p.name()}
	for {
		switch {
		case p.accept(wordDirect):
			t.Rels = append(t.Rels, p.direct())
		case p.accept(wordDefined):
			t.Rels = append(t.Rels, p.defined())
		default:
			return t
		}
	}
}

// direct reads what stands behind the word of a direct relation.
func (p *parser) direct() api.Rel {
	r := api.Rel{Name: p.name()}
	p.expect(":")
	r.Refs = separated(p, "|", p.ref)
	return r
}

// defined reads what stands behind the word of a defined relation.
func (p *parser) defined() api.Rel {
	r := api.Rel{Name: p.name()}
	p.expect(":")
	r.Expr = p.expr()
	return r
}

// separated reads one thing, and another one behind each separator.
func separated[T any](p *parser, separator string, one func() T) []T {
	l := []T{one()}
	for p.accept(separator) {
		l = append(l, one())
	}
	return l
}

func (p *parser) ref() api.Ref {
	r := api.Ref{Type: p.name()}
	if p.accept("#") {
		r.Rel = p.name()
	}
	return r
}

func (p *parser) expr() api.Expr {
	return p.operations(p.term, api.EOr, api.ENot)
}

func (p *parser) term() api.Expr {
	return p.operations(p.atom, api.EAnd)
}

// operations reads one operand, and another one behind each operator of some kinds.
func (p *parser) operations(operand func() api.Expr, kinds ...int) api.Expr {
	e := operand()
	for {
		i := slices.IndexFunc(kinds, func(kind int) bool { return p.token() == operator(kind) })
		if i < 0 {
			return e
		}
		at := p.from
		p.next()
		e = api.Expr{Kind: kinds[i], Kids: []api.Expr{e, operand()}}
		if Height(e) > api.MaxDeep {
			p.fail(at, api.ErrDeep)
		}
	}
}

func (p *parser) atom() api.Expr {
	if p.token() == "(" {
		return p.group()
	}
	e := api.Expr{Kind: api.ERel, Name: p.name()}
	if p.accept(".") {
		e.Kind, e.Over = api.EArrow, p.name()
	}
	return e
}

// group reads an expression between ( and ).
func (p *parser) group() api.Expr {
	if p.open == api.MaxDeep {
		p.fail(p.from, api.ErrDeep)
	}
	p.open++
	p.expect("(")
	e := p.expr()
	p.expect(")")
	p.open--
	return e
}
