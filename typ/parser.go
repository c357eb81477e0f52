package typ

import (
	"sort"

	"trefoil/api"
)

// What a type that is being read may stand in.
const (
	nothing    = iota
	inBrackets // ( ahead of it
	inObject   // a field's label ahead of it
	behindArrow
	behindStar
)

// open is something that a type that is being read stands in.
type open struct {
	kind int
	left api.Type // of an arrow or a product: its left side
	o    *object
}

// object is what was read of an object's type.
type object struct {
	labels []string
	types  []api.Type
	seen   map[string]struct{}
	label  string // the field that is being read, and its token's place
	at     int
}

// What is wanted next.
const (
	wantAtom = iota // the beginning of a type
	haveType        // what goes on behind one
	haveAll
)

// parser reads a type. What is open stands in a list, since brackets may be deeper than any stack.
type parser struct {
	l    []api.Token
	at   int
	open []open
}

func (p *parser) is(kind int, s string) bool { return p.l[p.at].Kind == kind && p.l[p.at].S == s }

// take passes over a symbol, if it is there.
func (p *parser) take(s string) bool {
	ok := p.is(api.Sym, s)
	if ok {
		p.at++
	}
	return ok
}

func (p *parser) wrong() error { return &fault{p.at, errToken} }

func (p *parser) push(kind int, left api.Type) {
	p.open = append(p.open, open{kind: kind, left: left})
}

func (p *parser) top() int {
	if len(p.open) == 0 {
		return nothing
	}
	return p.open[len(p.open)-1].kind
}

func (p *parser) pop() open {
	o := p.open[len(p.open)-1]
	p.open = p.open[:len(p.open)-1]
	return o
}

// whole is the type that begins here, as far as it goes.
func (p *parser) whole() (api.Type, error) {
	var t api.Type
	var err error
	for state := wantAtom; state != haveAll && err == nil; {
		if state == wantAtom {
			t, state, err = p.begin()
		} else {
			t, state, err = p.goOn(t)
		}
	}
	return t, err
}

// begin reads an atom, or the first tokens of one.
func (p *parser) begin() (api.Type, int, error) {
	k := p.l[p.at]
	switch k.Kind {
	case api.Tick:
		p.at++
		return api.Type{Kind: api.TVar, S: k.S}, haveType, nil
	case api.Name:
		if k.S == "int" || k.S == "bool" || k.S == "string" || k.S == "unit" {
			p.at++
			return api.Type{Kind: api.TCon, S: k.S}, haveType, nil
		}
	case api.Sym:
		if p.take("(") {
			p.push(inBrackets, api.Type{})
			return api.Type{}, wantAtom, nil
		}
		if p.take("<") {
			o := &object{seen: map[string]struct{}{}}
			p.open = append(p.open, open{kind: inObject, o: o})
			if p.take(">") {
				return p.ended(false)
			}
			return p.field(o)
		}
	}
	return api.Type{}, 0, p.wrong()
}

// field reads a field up to its type, or what stands in the last one's place.
func (p *parser) field(o *object) (api.Type, int, error) {
	if p.take("..") {
		if !p.take(">") {
			return api.Type{}, 0, p.wrong()
		}
		return p.ended(true)
	}
	o.label, o.at = p.l[p.at].S, p.at
	if p.l[p.at].Kind != api.Name {
		return api.Type{}, 0, p.wrong()
	}
	p.at++
	if !p.take(":") {
		return api.Type{}, 0, p.wrong()
	}
	return api.Type{}, wantAtom, nil
}

// ended is the object whose > was read.
func (p *parser) ended(isOpen bool) (api.Type, int, error) {
	o := p.pop().o
	order := make([]int, len(o.labels))
	for i := range order {
		order[i] = i
	}
	sort.Slice(order, func(i, j int) bool { return o.labels[order[i]] < o.labels[order[j]] })
	t := api.Type{Kind: api.TObj, Open: isOpen}
	for _, i := range order {
		t.Labels = append(t.Labels, o.labels[i])
		t.Args = append(t.Args, o.types[i])
	}
	return t, haveType, nil
}

// goOn reads what joins more to a type, level by level, or else ends what it stands in.
func (p *parser) goOn(t api.Type) (api.Type, int, error) {
	switch p.top() {
	case nothing, inBrackets:
		if p.is(api.Key, "as") {
			return p.named(t)
		}
		fallthrough
	case inObject, behindArrow:
		if p.take("->") {
			p.push(behindArrow, t)
			return api.Type{}, wantAtom, nil
		}
		fallthrough
	case behindStar:
		if p.take("*") {
			p.push(behindStar, t)
			return api.Type{}, wantAtom, nil
		}
	}
	return p.close(t)
}

// named reads all names that a type is given, behind which nothing joins any more.
func (p *parser) named(t api.Type) (api.Type, int, error) {
	for p.is(api.Key, "as") {
		p.at++
		if p.l[p.at].Kind != api.Tick {
			return api.Type{}, 0, p.wrong()
		}
		t = api.Type{Kind: api.TAs, S: p.l[p.at].S, Args: []api.Type{t}}
		p.at++
	}
	return p.close(t)
}

// close ends what a type stands in.
func (p *parser) close(t api.Type) (api.Type, int, error) {
	switch p.top() {
	case behindArrow:
		return api.Type{Kind: api.TCon, S: "->", Args: []api.Type{p.pop().left, t}}, haveType, nil
	case behindStar:
		return api.Type{Kind: api.TCon, S: "*", Args: []api.Type{p.pop().left, t}}, haveType, nil
	case inBrackets:
		if !p.take(")") {
			return api.Type{}, 0, p.wrong()
		}
		p.pop()
		return t, haveType, nil
	case inObject:
		return p.closeField(p.open[len(p.open)-1].o, t)
	}
	return t, haveAll, nil
}

// closeField puts a field's type to its object.
func (p *parser) closeField(o *object, t api.Type) (api.Type, int, error) {
	if _, twice := o.seen[o.label]; twice {
		return api.Type{}, 0, &fault{o.at, errTwice}
	}
	o.seen[o.label] = struct{}{}
	o.labels = append(o.labels, o.label)
	o.types = append(o.types, t)
	if p.take(";") {
		return p.field(o)
	}
	if p.take(">") {
		return p.ended(false)
	}
	return api.Type{}, 0, p.wrong()
}
