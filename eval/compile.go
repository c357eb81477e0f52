package eval

import "trefoil/api"

// code is an expression whose names are looked up: a name means what it meant where its text stands, whatever is said later.
type code struct {
	kind   int
	v      value  // of a constant; of a name from another phrase its value
	s      string // an op; a method's, or a field's, name
	depth  int    // how many bindings outwards a name's stands
	sort   int    // what a name is
	parts  []*code
	names  []string
	class  *class
	made   *layout
	method method // of a send to a super
}

// What a name may be.
const (
	nothing = iota
	known   // a value, that is in the code
	variable
	field
	super
)

// around is what is bound at one place when a text is looked through, and all around it. It has a binding of its own in an env.
type around struct {
	up     *around
	name   string // a variable's, or the object's own; or empty
	made   *layout
	supers []came
}

// came is the methods that an object has by one class that it inherits.
type came struct {
	as      string
	methods map[string]method
}

func (a *around) bind(name string) *around { return &around{up: a, name: name} }

// look is what a name is, how many bindings outwards, and, of a super, its methods.
func (a *around) look(name string) (sort, depth int, methods map[string]method) {
	for ; a != nil; a = a.up {
		if a.name == name {
			return variable, depth, nil
		}
		for i := len(a.supers) - 1; i >= 0; i-- {
			if a.supers[i].as == name {
				return super, depth, a.supers[i].methods
			}
		}
		if a.made != nil && a.made.has(name) {
			return field, depth, nil
		}
		depth++
	}
	return nothing, 0, nil
}

// object is the innermost object around, nil if there is none, and how many bindings outwards.
func (a *around) object() (*layout, int) {
	depth := 0
	for ; a != nil; a = a.up {
		if a.made != nil {
			return a.made, depth
		}
		depth++
	}
	return nil, 0
}

// compiler has what names mean by now.
type compiler struct {
	values  map[string]value
	classes map[string]*class
}

func (c *compiler) all(l []api.Expr, a *around) []*code {
	var parts []*code
	for i := range l {
		parts = append(parts, c.expr(&l[i], a))
	}
	return parts
}

// expr is an expression's code.
func (c *compiler) expr(x *api.Expr, a *around) *code {
	k := &code{kind: x.Kind, s: x.S}
	switch x.Kind {
	case api.Num:
		k.v = number(x.N)
	case api.Bool:
		k.v = truth(x.N == 1)
	case api.Text:
		k.v = words(x.S)
	case api.Unit:
		k.v = unit{}
	case api.Var:
		c.name(k, a)
	case api.Fun:
		k.parts = c.all(x.Args, a.bind(x.S))
	case api.Rec:
		k.parts = c.all(x.Args, a.bind(x.S))
	case api.Let:
		k.parts = []*code{c.expr(&x.Args[0], a), c.expr(&x.Args[1], a.bind(x.S))}
	case api.Object:
		k.made = c.layout(x, a, false)
	default:
		c.asking(k, x, a)
	}
	return k
}

// asking fills in the code of what has parts, and may ask for a field, a method, or a class.
func (c *compiler) asking(k *code, x *api.Expr, a *around) {
	switch x.Kind {
	case api.Send:
		if x.Args[0].Kind == api.Var && c.super(k, x, a) {
			return
		}
	case api.Set:
		k.sort, k.depth, _ = a.look(x.S)
	case api.New:
		k.class = c.classes[x.S]
	case api.Clone:
		k.made, k.depth = a.object()
		k.names = append(k.names, x.Names...)
	}
	k.parts = c.all(x.Args, a)
}

// name fills in what a name means.
func (c *compiler) name(k *code, a *around) {
	k.sort, k.depth, _ = a.look(k.s)
	if v, ok := c.values[k.s]; ok && k.sort == nothing {
		k.sort, k.v = known, v
	}
}

// super fills in a send to a super, if it is one: such a send has no parts.
func (c *compiler) super(k *code, x *api.Expr, a *around) bool {
	sort, depth, methods := a.look(x.Args[0].S)
	if sort != super {
		return false
	}
	k.sort, k.depth, k.method = sort, depth, methods[x.S]
	return true
}
