package infer

import (
	"slices"

	"trefoil/api"
	"trefoil/env"
)

// object is what is known of an object that is being made: the node of itself, its fields' nodes, its methods.
type object struct {
	self     int
	fields   map[string]int
	concrete map[string]struct{}
	virtual  map[string]struct{}
}

// lacking are the names that are virtual and not concrete, rising.
func (o *object) lacking() []string {
	var l []string
	for s := range o.virtual {
		if _, ok := o.concrete[s]; !ok {
			l = append(l, s)
		}
	}
	slices.Sort(l)
	return l
}

// asked is the type of what asks an object, or a class.
func (w *walker) asked(x *api.Expr, f *frame) int {
	switch x.Kind {
	case api.Send:
		if x.Args[0].Kind == api.Var {
			if at := f.look(x.Args[0].S); at != nil && at.kind == super {
				return w.label(at.o.self, x.S)
			}
		}
		return w.label(w.expr(&x.Args[0], f), x.S)
	case api.Set:
		w.unite(w.expr(&x.Args[0], f), f.look(x.S).node)
		return w.plain("unit")
	case api.Clone:
		o := f.object()
		for i, s := range x.Names {
			w.unite(w.expr(&x.Args[i], f), o.fields[s])
		}
		return o.self
	}
	return w.made(x, f)
}

// class is a class's type by its name.
func (w *walker) class(name string) env.Class {
	c, ok := w.classes[name]
	if !ok {
		c, _ = w.e.Class(name)
		w.classes[name] = c
	}
	return c
}

// parts are the nodes of a class's graph where its parameters, its fields and the object itself stand.
func parts(c env.Class) (params []int, fields, self int) {
	n := c.G.Root
	for range c.Params {
		params = append(params, c.G.N[n].Args[0])
		n = c.G.N[n].Args[1]
	}
	return params, c.G.N[n].Args[0], c.G.N[n].Args[1]
}

// taken gives an instance of a class its Args, and is where the nodes of its graph begin.
func (w *walker) taken(c env.Class, args []api.Expr, f *frame) int {
	if len(args) != c.Params {
		w.fail("as many parts as the class has none", errType)
	}
	from := w.graph(c.G)
	params, _, _ := parts(c)
	for i := range args {
		t := w.expr(&args[i], f)
		if w.err != nil {
			return 0
		}
		w.unite(t, from+params[i])
	}
	return from
}

// made is the type of a new object: no Arg may bring it a label.
func (w *walker) made(x *api.Expr, f *frame) int {
	c := w.class(x.S)
	if len(c.Virtual) > 0 {
		w.fail("a class with a virtual method", errType)
	}
	_, _, self := parts(c)
	c.G.N = slices.Clone(c.G.N)
	c.G.N[self].Open = false
	return w.taken(c, x.Args, f) + self
}

// object is the type of an object that is an expression.
func (w *walker) object(x *api.Expr, f *frame) int {
	o := w.members(x, f)
	if len(o.lacking()) > 0 {
		w.fail("an object with a virtual method", errType)
	}
	if w.err == nil {
		w.s.Shut(o.self)
	}
	return o.self
}

// members finds what an object is made of, and then its methods' types.
func (w *walker) members(x *api.Expr, f *frame) *object {
	o := &object{w.add(api.Node{Kind: api.NObj, Open: true}), map[string]int{}, map[string]struct{}{}, map[string]struct{}{}}
	inner := &frame{around: f, kind: fields, o: o}
	for i := range x.Members {
		m := &x.Members[i]
		switch m.Kind {
		case api.Inherit:
			w.inherit(o, m, f)
			if m.As != "" {
				inner = &frame{around: inner, kind: super, name: m.As, o: o}
			}
		case api.Val:
			w.field(o, m.Name, w.expr(&m.Args[0], f))
		case api.Virtual:
			w.unite(w.label(o.self, m.Name), w.written(m.Types[0]))
			o.virtual[m.Name] = struct{}{}
		case api.Method:
			o.concrete[m.Name] = struct{}{}
		}
	}
	if x.S != "" {
		inner = inner.bind(x.S, o.self)
	}
	for i := range x.Members {
		if m := &x.Members[i]; m.Kind == api.Method {
			t := w.expr(&m.Args[0], inner)
			w.unite(w.label(o.self, m.Name), t)
		}
	}
	w.methods(o)
	return o
}

// methods looks whether each label of the object itself is a method's.
func (w *walker) methods(o *object) {
	if w.err != nil {
		return
	}
	for _, s := range w.s.Node(o.self).Labels {
		_, has := o.concrete[s]
		_, lacks := o.virtual[s]
		if !has && !lacks {
			w.fail("a method that isn't there", errType)
		}
	}
}

// field gives an object a field of a type, one for each name.
func (w *walker) field(o *object, name string, t int) {
	n, ok := o.fields[name]
	if !ok {
		o.fields[name] = t
		return
	}
	w.unite(n, t)
}

// inherit gives an object what a class has.
func (w *walker) inherit(o *object, m *api.Member, f *frame) {
	c := w.class(m.Name)
	from := w.taken(c, m.Args, f)
	_, fields, self := parts(c)
	w.unite(o.self, from+self)
	for i, s := range c.G.N[fields].Labels {
		w.field(o, s, from+c.G.N[fields].Args[i])
	}
	for _, s := range c.Concrete {
		o.concrete[s] = struct{}{}
	}
	for _, s := range c.Virtual {
		o.virtual[s] = struct{}{}
	}
}

// classType is the node of a class's type, its parameters ahead.
func (w *walker) classType(o *object, params []int) int {
	x := api.Node{Kind: api.NObj}
	for s := range o.fields {
		x.Labels = append(x.Labels, s)
	}
	slices.Sort(x.Labels)
	for _, s := range x.Labels {
		x.Args = append(x.Args, o.fields[s])
	}
	t := w.con("*", w.add(x), o.self)
	for _, p := range slices.Backward(params) {
		t = w.con("->", p, t)
	}
	return t
}
