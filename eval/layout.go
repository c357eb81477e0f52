package eval

import "trefoil/api"

// class is one, by its parameters and what its objects are made of.
type class struct {
	params int
	made   *layout
}

// noLevel is the level of a class around whose methods nothing is bound, and which makes no fields: it needs none.
const noLevel = -1

// manyLevels is more levels than any run can make.
const manyLevels = 1 << 40

// method is a body, and at which level, counted from its object's (or class's) own; no body, if there is none.
type method struct {
	body  *code
	level int
}

// layout is what an object, or a class, is made of.
type layout struct {
	members []member
	slots   map[string]int // where its fields stand
	methods map[string]method
	level   int // its own: 0, or noLevel
	levels  int
}

// member is what has to be done to make an object: a class to be inherited, or a field.
type member struct {
	isVal bool
	name  string
	class *class // nil, if there is none
	args  []*code
}

func (l *layout) has(name string) bool {
	_, ok := l.slots[name]
	return ok
}

// slot gives a field a place, unless it has one.
func (l *layout) slot(name string) {
	if !l.has(name) {
		l.slots[name] = len(l.slots)
	}
}

// class is a class's code.
func (c *compiler) class(p *api.Phrase) *class {
	var a *around
	for _, s := range p.Names {
		a = a.bind(s)
	}
	return &class{len(p.Names), c.layout(&p.E, a, len(p.Names) == 0)}
}

// layout is what an object is made of; bare, if nothing is bound around it.
func (c *compiler) layout(x *api.Expr, a *around, bare bool) *layout {
	l := &layout{slots: map[string]int{}, methods: map[string]method{}, levels: 1}
	if bare && c.makesNothing(x) {
		l.level, l.levels = noLevel, 0
	}
	inner := &around{up: a, name: x.S, made: l}
	bodies := map[string]int{}
	for i := range x.Members {
		switch m := &x.Members[i]; m.Kind {
		case api.Inherit:
			methods := c.inherit(l, m, a)
			for s, k := range methods {
				l.methods[s] = k
				delete(bodies, s)
			}
			if m.As != "" {
				inner.supers = append(inner.supers, came{m.As, methods})
			}
		case api.Val:
			l.slot(m.Name)
			l.members = append(l.members, member{isVal: true, name: m.Name, args: c.all(m.Args, a)})
		case api.Method:
			bodies[m.Name] = i
		}
	}
	for s, i := range bodies {
		l.methods[s] = method{c.expr(&x.Members[i].Args[0], inner), l.level}
	}
	return l
}

// makesNothing says whether an object without anything around takes no step to be made: it has no fields, and inherits such classes alone.
func (c *compiler) makesNothing(x *api.Expr) bool {
	for i := range x.Members {
		switch m := &x.Members[i]; m.Kind {
		case api.Val:
			return false
		case api.Inherit:
			k := c.classes[m.Name]
			if k == nil || len(m.Args) != k.params || k.made.level != noLevel {
				return false
			}
		}
	}
	return true
}

// inherit puts a class's part to a layout, and is the methods that come so.
func (c *compiler) inherit(l *layout, m *api.Member, a *around) map[string]method {
	k := c.classes[m.Name]
	methods := map[string]method{}
	if k != nil {
		for s := range k.made.slots {
			l.slot(s)
		}
		for s, x := range k.made.methods {
			if x.level != noLevel {
				x.level += l.levels
			}
			methods[s] = x
		}
	}
	l.members = append(l.members, member{name: m.Name, class: k, args: c.all(m.Args, a)})
	if k != nil {
		l.levels = min(l.levels+k.made.levels, manyLevels)
	}
	return methods
}
