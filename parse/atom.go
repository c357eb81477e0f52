package parse

import "trefoil/api"

func (p *parser) application() (*api.Expr, error) {
	if p.take(api.Key, "new") {
		return p.newObject()
	}
	e, err := p.send()
	for err == nil && p.beginsAtom() {
		var a *api.Expr
		if a, err = p.send(); err == nil {
			e = node(api.App, "", e, a)
		}
	}
	return e, err
}

// newObject reads what stands behind new.
func (p *parser) newObject() (*api.Expr, error) {
	name, err := p.name()
	if err != nil {
		return nil, err
	}
	e := node(api.New, name)
	e.Args, err = p.sends()
	return e, err
}

// sends reads as many sends as there are.
func (p *parser) sends() ([]api.Expr, error) {
	var l []api.Expr
	for p.beginsAtom() {
		e, err := p.send()
		if err != nil {
			return nil, err
		}
		l = append(l, *e)
	}
	return l, nil
}

func (p *parser) send() (*api.Expr, error) {
	e, err := p.atom()
	for err == nil && p.take(api.Sym, "#") {
		var name string
		if name, err = p.name(); err == nil {
			e = node(api.Send, name, e)
		}
	}
	return e, err
}

func (p *parser) beginsAtom() bool {
	switch k := p.l[p.at]; k.Kind {
	case api.Int, api.Str, api.Name:
		return true
	case api.Key:
		return k.S == "true" || k.S == "false" || k.S == "object"
	case api.Sym:
		return k.S == "(" || k.S == "{<"
	}
	return false
}

func (p *parser) atom() (*api.Expr, error) {
	if !p.beginsAtom() {
		return nil, p.wrong()
	}
	k := &p.l[p.at]
	p.at++
	switch k.Kind {
	case api.Int:
		return &api.Expr{Kind: api.Num, N: k.N}, nil
	case api.Str:
		return node(api.Text, k.S), nil
	case api.Name:
		return node(api.Var, k.S), nil
	}
	switch k.S {
	case "true":
		return &api.Expr{Kind: api.Bool, N: 1}, nil
	case "false":
		return &api.Expr{Kind: api.Bool}, nil
	case "object":
		return p.body()
	case "{<":
		return p.clone()
	}
	return p.brackets()
}

// brackets reads what stands behind a (.
func (p *parser) brackets() (*api.Expr, error) {
	if p.take(api.Sym, ")") {
		return node(api.Unit, ""), nil
	}
	e, err := p.expression()
	switch {
	case err != nil:
	case p.take(api.Sym, ","):
		var right *api.Expr
		if right, err = p.expression(); err == nil {
			e = node(api.Pair, "", e, right)
		}
	case p.take(api.Sym, ":"):
		e, err = p.typed(e)
	}
	if err == nil {
		err = p.must(api.Sym, ")")
	}
	return e, err
}

// typed reads what stands behind an expression's : .
func (p *parser) typed(e *api.Expr) (*api.Expr, error) {
	t, err := p.typ()
	if err != nil {
		return nil, err
	}
	told := node(api.Annot, "", e)
	told.Types = []api.Type{t}
	if !p.take(api.Sym, ":>") {
		return told, nil
	}
	u, err := p.typ()
	told.Kind = api.Coerce
	told.Types = append(told.Types, u)
	return told, err
}

// clone reads what stands behind a {< .
func (p *parser) clone() (*api.Expr, error) {
	e := node(api.Clone, "")
	if p.take(api.Sym, ">}") {
		return e, nil
	}
	for {
		name, err := p.name()
		if err == nil {
			err = p.must(api.Sym, "=")
		}
		if err != nil {
			return nil, err
		}
		a, err := p.one()
		if err != nil {
			return nil, err
		}
		e.Names = append(e.Names, name)
		e.Args = append(e.Args, *a)
		if !p.take(api.Sym, ";") {
			return e, p.must(api.Sym, ">}")
		}
	}
}

// body reads what stands behind the word object.
func (p *parser) body() (*api.Expr, error) {
	e := node(api.Object, "")
	var err error
	if p.take(api.Sym, "(") {
		if e.S, err = p.name(); err == nil {
			err = p.must(api.Sym, ")")
		}
	}
	for err == nil && !p.take(api.Key, "end") {
		var m *api.Member
		if m, err = p.member(); err == nil {
			e.Members = append(e.Members, *m)
		}
	}
	return e, err
}

func (p *parser) member() (*api.Member, error) {
	switch {
	case p.take(api.Key, "inherit"):
		return p.inherit()
	case p.take(api.Key, "val"):
		name, err := p.name()
		if err == nil {
			err = p.must(api.Sym, "=")
		}
		return p.valued(api.Val, name, nil, err)
	case p.take(api.Key, "method"):
		names, err := p.names(1, "=")
		if err != nil {
			return nil, err
		}
		return p.valued(api.Method, names[0], names[1:], nil)
	case p.take(api.Key, "virtual"):
		return p.virtual()
	}
	return nil, p.wrong()
}

// valued reads a member's expression, unless something was wrong already.
func (p *parser) valued(kind int, name string, names []string, err error) (*api.Member, error) {
	if err != nil {
		return nil, err
	}
	e, err := p.expression()
	if err != nil {
		return nil, err
	}
	return &api.Member{Kind: kind, Name: name, Args: []api.Expr{*funs(names, e)}}, nil
}

// virtual reads what stands behind the word virtual.
func (p *parser) virtual() (*api.Member, error) {
	name, err := p.name()
	if err == nil {
		err = p.must(api.Sym, ":")
	}
	if err != nil {
		return nil, err
	}
	t, err := p.typ()
	return &api.Member{Kind: api.Virtual, Name: name, Types: []api.Type{t}}, err
}

// inherit reads what stands behind the word inherit.
func (p *parser) inherit() (*api.Member, error) {
	name, err := p.name()
	if err != nil {
		return nil, err
	}
	m := &api.Member{Kind: api.Inherit, Name: name}
	if m.Args, err = p.sends(); err == nil && p.take(api.Key, "as") {
		m.As, err = p.name()
	}
	return m, err
}
