package parse

import (
	"trefoil/api"
	"trefoil/typ"
)

// parser reads tokens, of which the last one is an End.
type parser struct {
	l  []api.Token
	at int
}

func (p *parser) is(kind int, s string) bool { return p.l[p.at].Kind == kind && p.l[p.at].S == s }

// take passes over a token, if it is there.
func (p *parser) take(kind int, s string) bool {
	ok := p.is(kind, s)
	if ok {
		p.at++
	}
	return ok
}

func (p *parser) wrong() error { return &fault{p.l[p.at].At, errToken} }

// must passes over a token that has to be there.
func (p *parser) must(kind int, s string) error {
	if p.take(kind, s) {
		return nil
	}
	return p.wrong()
}

func (p *parser) name() (string, error) {
	k := p.l[p.at]
	if k.Kind != api.Name {
		return "", p.wrong()
	}
	p.at++
	return k.S, nil
}

// names reads at least so many names, and what has to stand behind them.
func (p *parser) names(least int, behind string) ([]string, error) {
	var l []string
	for p.l[p.at].Kind == api.Name {
		l = append(l, p.l[p.at].S)
		p.at++
	}
	if len(l) < least {
		return nil, p.wrong()
	}
	return l, p.must(api.Sym, behind)
}

// typ reads a type.
func (p *parser) typ() (api.Type, error) {
	t, at, e := typ.Parse(p.l, p.at)
	switch e {
	case api.OK:
		p.at = at
		return t, nil
	case api.ErrDeep:
		return api.Type{}, &fault{0, errDeep}
	}
	return api.Type{}, &fault{p.l[at].At, errToken}
}

// node is an expression of parts. (Expressions go from call to call as pointers, since brackets may be deep, and stacks had better be small.)
func node(kind int, s string, parts ...*api.Expr) *api.Expr {
	e := &api.Expr{Kind: kind, S: s, Args: make([]api.Expr, len(parts))}
	for i := range parts {
		e.Args[i] = *parts[i]
	}
	return e
}

// funs is an expression behind names, the first one outside.
func funs(names []string, e *api.Expr) *api.Expr {
	for i := len(names) - 1; i >= 0; i-- {
		e = node(api.Fun, names[i], e)
	}
	return e
}

// bound is what stands between a let and its in, or its end.
type bound struct {
	rec  bool
	name string
	e    *api.Expr
}

// phrase reads a phrase, but for its end.
func (p *parser) phrase() (api.Phrase, error) {
	var e *api.Expr
	var err error
	switch {
	case p.take(api.Key, "class"):
		return p.class()
	case p.is(api.Key, "let"):
		b, wrong := p.binding()
		if wrong == nil && !p.is(api.Key, "in") {
			kind := api.PLet
			if b.rec {
				kind = api.PRec
			}
			return api.Phrase{Kind: kind, Name: b.name, E: *b.e}, nil
		}
		e, err = p.in(b, wrong)
	default:
		e, err = p.expression()
	}
	if err != nil {
		return api.Phrase{}, err
	}
	return api.Phrase{Kind: api.PExpr, E: *e}, nil
}

// class reads what stands behind the word class.
func (p *parser) class() (api.Phrase, error) {
	names, err := p.names(1, "=")
	if err == nil {
		err = p.must(api.Key, "object")
	}
	if err != nil {
		return api.Phrase{}, err
	}
	e, err := p.body()
	if err != nil {
		return api.Phrase{}, err
	}
	return api.Phrase{Kind: api.PClass, Name: names[0], Names: names[1:], E: *e}, nil
}

// binding reads from let to the end of what is bound.
func (p *parser) binding() (bound, error) {
	p.at++
	rec := p.take(api.Key, "rec")
	place := p.l[p.at].At
	names, err := p.names(1, "=")
	if err != nil {
		return bound{}, err
	}
	e, err := p.expression()
	if err != nil {
		return bound{}, err
	}
	e = funs(names[1:], e)
	if rec && e.Kind != api.Fun {
		return bound{}, &fault{place, errRec}
	}
	return bound{rec, names[0], e}, nil
}

// in reads what stands behind a binding within an expression, unless that was wrong.
func (p *parser) in(b bound, err error) (*api.Expr, error) {
	if err == nil {
		err = p.must(api.Key, "in")
	}
	if err != nil {
		return nil, err
	}
	kind := api.Let
	if b.rec {
		kind = api.Rec
	}
	e, err := p.expression()
	if err != nil {
		return nil, err
	}
	return node(kind, b.name, b.e, e), nil
}

// expression reads one, and all that ; joins to it.
func (p *parser) expression() (*api.Expr, error) {
	e, err := p.one()
	if err != nil || !p.take(api.Sym, ";") {
		return e, err
	}
	next, err := p.expression()
	if err != nil {
		return nil, err
	}
	return node(api.Seq, "", e, next), nil
}

func (p *parser) one() (*api.Expr, error) {
	switch {
	case p.is(api.Key, "let"):
		return p.in(p.binding())
	case p.take(api.Key, "fun"):
		return p.fun()
	case p.take(api.Key, "if"):
		return p.choice()
	case p.l[p.at].Kind == api.Name && p.l[p.at+1].Kind == api.Sym && p.l[p.at+1].S == "<-":
		return p.set()
	}
	return p.sides(comparison)
}

// fun reads what stands behind fun.
func (p *parser) fun() (*api.Expr, error) {
	names, err := p.names(1, "->")
	if err != nil {
		return nil, err
	}
	e, err := p.expression()
	if err != nil {
		return nil, err
	}
	return funs(names, e), nil
}

// set reads a name, <-, and what it is given.
func (p *parser) set() (*api.Expr, error) {
	name := p.l[p.at].S
	p.at += 2
	e, err := p.one()
	if err != nil {
		return nil, err
	}
	return node(api.Set, name, e), nil
}

// choice reads what stands behind if.
func (p *parser) choice() (*api.Expr, error) {
	test, err := p.expression()
	if err == nil {
		err = p.must(api.Key, "then")
	}
	if err != nil {
		return nil, err
	}
	yes, err := p.one()
	if err == nil {
		err = p.must(api.Key, "else")
	}
	if err != nil {
		return nil, err
	}
	no, err := p.one()
	if err != nil {
		return nil, err
	}
	return node(api.If, "", test, yes, no), nil
}

// How loosely operations join their sides.
const (
	none = iota
	comparison
	sum
	product
)

// joins is how loosely the operation that stands here joins its sides: each level is tried one below the other.
func (p *parser) joins() int {
	level := none
	if p.l[p.at].Kind != api.Sym {
		return level
	}
	switch p.l[p.at].S {
	case "*", "/":
		level++
		fallthrough
	case "+", "-":
		level++
		fallthrough
	case "=", "<":
		level++
	}
	return level
}

// sides reads what operations of a level, or of those above it, join.
func (p *parser) sides(least int) (*api.Expr, error) {
	e, err := p.application()
	for err == nil {
		level := p.joins()
		if level < least {
			break
		}
		op := p.l[p.at].S
		p.at++
		right, wrong := p.sides(level + 1)
		if wrong != nil {
			return nil, wrong
		}
		e = node(api.Op, op, e, right)
		if level == comparison {
			break // a comparison isn't a side of one
		}
	}
	return e, err
}
