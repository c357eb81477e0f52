package infer

import (
	"trefoil/api"
	"trefoil/inst"
	"trefoil/load"
	"trefoil/sub"
	"trefoil/tree"
)

// expr is the node of an expression's type.
func (w *walker) expr(x *api.Expr, f *frame) int {
	if w.err != nil {
		return 0
	}
	switch x.Kind {
	case api.Var:
		return w.named(x.S, f)
	case api.Num, api.Bool, api.Text, api.Unit:
		return w.plain(constant(x.Kind))
	case api.Fun:
		a := w.variable()
		return w.con("->", a, w.expr(&x.Args[0], f.bind(x.S, a)))
	case api.Let, api.Rec:
		return w.let(x, f)
	case api.App, api.Pair, api.If, api.Op, api.Seq:
		return w.parted(x, f)
	case api.Object:
		return w.object(x, f)
	case api.Annot, api.Coerce:
		return w.typed(x, f)
	}
	return w.asked(x, f)
}

// constant is the name of a constant's type.
func constant(kind int) string {
	switch kind {
	case api.Num:
		return "int"
	case api.Bool:
		return "bool"
	case api.Text:
		return "string"
	}
	return "unit"
}

// named is the type of what a name means.
func (w *walker) named(name string, f *frame) int {
	at := f.look(name)
	switch {
	case at == nil:
		return w.value(name)
	case at.kind != general:
		return at.node
	}
	n, ok := w.s.Fresh(at.node, at.above, w.level, w.budget-w.s.Len())
	if !ok {
		w.fail(name, errBudget)
	}
	return n
}

// value is an instance of the type of a value of the Env.
func (w *walker) value(name string) int {
	g, ok := w.values[name]
	if !ok {
		g, _ = w.e.Value(name)
		w.values[name] = g
	}
	return w.graph(g) + g.Root
}

// within is the type of what is bound within itself.
func (w *walker) within(name string, x *api.Expr, f *frame) int {
	t := w.variable()
	w.unite(t, w.expr(x, f.bind(name, t)))
	return t
}

// let is the type of what stands behind a binding, whose name is general if it is bound to a value.
func (w *walker) let(x *api.Expr, f *frame) int {
	var t int
	w.level++
	if x.Kind == api.Rec {
		t = w.within(x.S, &x.Args[0], f)
	} else {
		t = w.expr(&x.Args[0], f)
	}
	w.level--
	if w.err != nil {
		return 0
	}
	own := f.bind(x.S, t)
	if tree.Value(x.Args[0]) {
		w.s.Settle(t, w.level)
		own.kind, own.above = general, w.level
	} else {
		w.s.Lower(t, w.level)
	}
	return w.expr(&x.Args[1], own)
}

// parted is the type of an expression that has nothing but parts.
func (w *walker) parted(x *api.Expr, f *frame) int {
	var parts [3]int
	for i := range x.Args {
		parts[i] = w.expr(&x.Args[i], f)
	}
	a, b, c, first := parts[0], parts[1], parts[2], "unit"
	switch x.Kind {
	case api.App:
		r := w.variable()
		w.unite(a, w.con("->", b, r))
		return r
	case api.Pair:
		return w.con("*", a, b)
	case api.If:
		w.unite(b, c)
		first = "bool"
		fallthrough
	case api.Seq:
		w.unite(a, w.plain(first))
		return b
	}
	w.unite(a, w.plain("int"))
	w.unite(b, w.plain("int"))
	if x.S == "=" || x.S == "<" {
		return w.plain("bool")
	}
	return w.plain("int")
}

// typed is the type of what has types written behind it.
func (w *walker) typed(x *api.Expr, f *frame) int {
	t := w.written(x.Types[0])
	w.unite(w.expr(&x.Args[0], f), t)
	if x.Kind == api.Annot {
		return t
	}
	if !stands(x.Types[0], x.Types[1]) {
		w.fail("a coercion that is none", errType)
	}
	return w.written(x.Types[1])
}

// stands says whether both types are closed, and the first one may stand for the second one.
func stands(t, u api.Type) bool {
	g, no := load.Load(t)
	h, no2 := load.Load(u)
	if no != api.OK || no2 != api.OK || !inst.Closed(g) || !inst.Closed(h) {
		return false
	}
	ok, no := sub.Is(g, h)
	return ok && no == api.OK
}
