package infer_test

import (
	"math/rand"
	"slices"
	"strings"
	"testing"

	"trefoil/api"
	"trefoil/canon"
	"trefoil/env"
	"trefoil/gen"
	"trefoil/infer"
	"trefoil/inst"
	"trefoil/load"
	"trefoil/parse"
	"trefoil/scope"
	"trefoil/solve"
	"trefoil/sub"
	"trefoil/tree"
)

// oracle finds types as the rules are told, with the layers solve and gen: slowly, and with no levels.
type oracle struct {
	e    *env.Env
	g    api.Graph
	rep  []int // by node that was made, the one that stands for it
	fail bool
}

// object is what is known of one: the node of itself, its fields' nodes, its methods.
type object struct {
	self     int
	fields   map[string]int
	concrete map[string]struct{}
	virtual  map[string]struct{}
}

func (o *object) lacks() bool {
	for s := range o.virtual {
		if _, ok := o.concrete[s]; !ok {
			return true
		}
	}
	return false
}

// parts are the nodes of a class's graph where its parameters, its fields and the object itself stand.
func parts(c env.Class) (params []int, fields, self int) {
	n := c.G.Root
	for range c.Params {
		params = append(params, c.G.N[n].Args[0])
		n = c.G.N[n].Args[1]
	}
	return params, c.G.N[n].Args[0], c.G.N[n].Args[1]
}

// What a name may be bound as.
const (
	mono = iota
	general
	super
	fields
)

// place is what is bound at one place.
type place struct {
	up     *place
	kind   int
	name   string
	node   int
	others []int // of a general one: the monos around it
	o      *object
}

func (p *place) bind(name string, n int) *place {
	return &place{up: p, kind: mono, name: name, node: n}
}

func (p *place) look(name string) *place {
	for ; p != nil; p = p.up {
		if p.kind == fields {
			if n, ok := p.o.fields[name]; ok {
				return &place{kind: mono, node: n}
			}
		} else if p.name == name {
			return p
		}
	}
	return nil
}

// monos are all that are bound around.
func (p *place) monos() []int {
	var l []int
	for ; p != nil; p = p.up {
		switch p.kind {
		case mono:
			l = append(l, p.node)
		case fields:
			l = append(l, p.o.self)
			for _, n := range p.o.fields {
				l = append(l, n)
			}
		}
	}
	return l
}

func (w *oracle) add(n api.Node) int {
	w.g.N = append(w.g.N, n)
	w.rep = append(w.rep, len(w.rep))
	return len(w.rep) - 1
}

func (w *oracle) v() int { return w.add(api.Node{Kind: api.NVar}) }
func (w *oracle) con(name string, a ...int) int {
	for i := range a {
		a[i] = w.rep[a[i]]
	}
	return w.add(api.Node{Kind: api.NCon, Name: name, Args: a})
}

func (w *oracle) graph(g api.Graph) int {
	from := len(w.rep)
	for _, n := range g.N {
		n.Args = slices.Clone(n.Args)
		for i := range n.Args {
			n.Args[i] += from
		}
		w.add(n)
	}
	return from
}

func (w *oracle) unify(a, b int) {
	if w.fail {
		return
	}
	h, of, no := solve.Unify(w.g, [][2]int{{w.rep[a], w.rep[b]}})
	if no != api.OK {
		w.fail = true
		return
	}
	w.g = h
	for i := range w.rep {
		w.rep[i] = of[w.rep[i]]
	}
}

func (w *oracle) label(o int, s string) int {
	n := w.v()
	w.unify(o, w.add(api.Node{Kind: api.NObj, Labels: []string{s}, Args: []int{n}, Open: true}))
	return n
}

func (w *oracle) written(t api.Type) int {
	g, no := load.Load(t)
	if no != api.OK {
		w.fail = true
		return 0
	}
	return w.graph(g)
}

func (w *oracle) expr(x *api.Expr, p *place) int {
	if w.fail || len(w.rep) > 3000 {
		w.fail = true
		return 0
	}
	part := func(i int) int { return w.expr(&x.Args[i], p) }
	switch x.Kind {
	case api.Num:
		return w.con("int")
	case api.Bool:
		return w.con("bool")
	case api.Text:
		return w.con("string")
	case api.Unit:
		return w.con("unit")
	case api.Var:
		at := p.look(x.S)
		if at == nil {
			g, _ := w.e.Value(x.S)
			return w.graph(g)
		}
		if at.kind == general {
			w.g.Root = w.rep[at.node]
			var monos []int
			for _, m := range at.others {
				monos = append(monos, w.rep[m])
			}
			h, _ := gen.Fresh(w.g, monos)
			for len(w.rep) < len(h.N) {
				w.rep = append(w.rep, len(w.rep))
			}
			w.g = h
			return h.Root
		}
		return at.node
	case api.Fun:
		a := w.v()
		b := w.expr(&x.Args[0], p.bind(x.S, a))
		return w.con("->", a, b)
	case api.App:
		f, a, r := part(0), part(1), w.v()
		w.unify(f, w.con("->", a, r))
		return r
	case api.Let, api.Rec:
		var t int
		if x.Kind == api.Rec {
			t = w.v()
			w.unify(t, w.expr(&x.Args[0], p.bind(x.S, t)))
		} else {
			t = part(0)
		}
		own := p.bind(x.S, t)
		if tree.Value(x.Args[0]) {
			own.kind, own.others = general, p.monos()
		}
		return w.expr(&x.Args[1], own)
	case api.Pair:
		a, b := part(0), part(1)
		return w.con("*", a, b)
	case api.If:
		w.unify(part(0), w.con("bool"))
		a, b := part(1), part(2)
		w.unify(a, b)
		return a
	case api.Op:
		w.unify(part(0), w.con("int"))
		w.unify(part(1), w.con("int"))
		if x.S == "=" || x.S == "<" {
			return w.con("bool")
		}
		return w.con("int")
	case api.Seq:
		w.unify(part(0), w.con("unit"))
		return part(1)
	}
	return w.rest(x, p)
}

func (w *oracle) rest(x *api.Expr, p *place) int {
	switch x.Kind {
	case api.Send:
		if x.Args[0].Kind == api.Var {
			if at := p.look(x.Args[0].S); at != nil && at.kind == super {
				return w.label(at.o.self, x.S)
			}
		}
		return w.label(w.expr(&x.Args[0], p), x.S)
	case api.Set:
		w.unify(w.expr(&x.Args[0], p), p.look(x.S).node)
		return w.con("unit")
	case api.Annot:
		t := w.written(x.Types[0])
		w.unify(w.expr(&x.Args[0], p), t)
		return t
	case api.Coerce:
		g, no := load.Load(x.Types[0])
		h, no2 := load.Load(x.Types[1])
		ok, no3 := sub.Is(g, h)
		if no != api.OK || no2 != api.OK || no3 != api.OK || !ok {
			w.fail = true
			return 0
		}
		w.unify(w.expr(&x.Args[0], p), w.graph(g))
		return w.graph(h)
	case api.Clone:
		o := p
		for o.kind != fields {
			o = o.up
		}
		for i, s := range x.Names {
			w.unify(w.expr(&x.Args[i], p), o.o.fields[s])
		}
		return o.o.self
	case api.New:
		c, _ := w.e.Class(x.S)
		if len(c.Virtual) > 0 || c.Params != len(x.Args) {
			w.fail = true
			return 0
		}
		params, _, self := parts(c)
		c.G.N[self].Open = false
		from := w.graph(c.G)
		for i := range x.Args {
			w.unify(w.expr(&x.Args[i], p), from+params[i])
		}
		return from + self
	}
	o := w.object(x, p)
	if w.fail || o.lacks() {
		w.fail = true
		return 0
	}
	w.g.N[w.rep[o.self]].Open = false
	return o.self
}

func (w *oracle) field(o *object, s string, t int) {
	if n, ok := o.fields[s]; ok {
		w.unify(n, t)
	} else {
		o.fields[s] = t
	}
}

func (w *oracle) object(x *api.Expr, p *place) *object {
	o := &object{w.add(api.Node{Kind: api.NObj, Open: true}), map[string]int{}, map[string]struct{}{}, map[string]struct{}{}}
	in := &place{up: p, kind: fields, o: o}
	for i := range x.Members {
		m := &x.Members[i]
		switch m.Kind {
		case api.Inherit:
			c, _ := w.e.Class(m.Name)
			if c.Params != len(m.Args) {
				w.fail = true
				return o
			}
			params, fl, self := parts(c)
			from := w.graph(c.G)
			for i := range m.Args {
				w.unify(w.expr(&m.Args[i], p), from+params[i])
			}
			w.unify(o.self, from+self)
			for i, s := range c.G.N[fl].Labels {
				w.field(o, s, from+c.G.N[fl].Args[i])
			}
			for _, s := range c.Concrete {
				o.concrete[s] = struct{}{}
			}
			for _, s := range c.Virtual {
				o.virtual[s] = struct{}{}
			}
			if m.As != "" {
				in = &place{up: in, kind: super, name: m.As, o: o}
			}
		case api.Val:
			w.field(o, m.Name, w.expr(&m.Args[0], p))
		case api.Virtual:
			w.unify(w.label(o.self, m.Name), w.written(m.Types[0]))
			o.virtual[m.Name] = struct{}{}
		case api.Method:
			o.concrete[m.Name] = struct{}{}
		}
	}
	if x.S != "" {
		in = in.bind(x.S, o.self)
	}
	for i := range x.Members {
		if m := &x.Members[i]; m.Kind == api.Method {
			w.unify(w.expr(&m.Args[0], in), w.label(o.self, m.Name))
		}
	}
	if w.fail {
		return o
	}
	for _, s := range w.g.N[w.rep[o.self]].Labels {
		_, a := o.concrete[s]
		_, b := o.virtual[s]
		w.fail = w.fail || !a && !b
	}
	return o
}

// maker makes up expressions.
type maker struct {
	*rand.Rand
	names []string
}

func (w *maker) expr(n int) string {
	if n <= 0 {
		return []string{"1", "true", "()", w.names[w.Intn(len(w.names))], w.names[w.Intn(len(w.names))], w.names[w.Intn(len(w.names))], w.names[w.Intn(len(w.names))], w.names[w.Intn(len(w.names))]}[w.Intn(8)]
	}
	x := func() string { return w.expr(w.Intn(n)) }
	bound := func(s string) string {
		w.names = append(w.names, s, s)
		defer func() { w.names = w.names[:len(w.names)-2] }()
		return x()
	}
	v := []string{"x", "y", "z"}[w.Intn(3)]
	switch w.Intn(20) {
	case 0, 1, 2:
		return "(fun " + v + " -> " + bound(v) + ")"
	case 3, 4:
		return "(" + x() + " " + x() + ")"
	case 5, 6, 7:
		return "(let " + v + " = " + x() + " in " + bound(v) + ")"
	case 8, 9:
		return "(let rec " + v + " q = " + bound(v) + " in " + bound(v) + ")"
	case 10, 11:
		return "(" + x() + ", " + x() + ")"
	case 12:
		return "(if " + x() + " then " + x() + " else " + x() + ")"
	case 13, 14:
		return x() + "#" + []string{"m", "n"}[w.Intn(2)]
	case 15:
		return "(new " + []string{"c", "d", "e"}[w.Intn(3)] + strings.Repeat(" "+x(), w.Intn(2)) + ")"
	case 16:
		return "(" + x() + " : " + []string{"int", "'a -> 'a", "< m : 'a ; .. >", "< m : int > :> < >", "< m : 'a ; n : 'a > as 'b"}[w.Intn(5)] + ")"
	}
	s := "(s) "
	names := []string{"s", "s"}
	for range w.Intn(2) {
		s += "inherit " + []string{"c", "d", "e"}[w.Intn(3)] + strings.Repeat(" "+w.expr(n-2), w.Intn(2)) + " as p "
		names = append(names, "p#m", "p#n")
	}
	if w.Intn(2) == 0 {
		s += "val v = " + w.expr(n-1) + " "
		names = append(names, "v", "(v <- "+w.expr(n-2)+")", "{< v = "+w.expr(n-2)+" >}", "{< >}")
	}
	own := len(w.names)
	w.names = append(w.names, names...)
	for _, m := range []string{"m", "n"}[w.Intn(3)/2:] {
		s += "method " + m + " = " + w.expr(n-1) + " "
	}
	w.names = w.names[:own]
	return "object " + s + "end"
}

// P16.1, P16.2: the same as the rules, told slowly.
func TestOracle(t *testing.T) {
	e := world(t, "let x = 1", "let f = fun z -> z", "let g = object method m = 1 method n = 2 end", "class c = object method m = 1 end", "class d x = object val v = x method m = v end", "class e = object (s) virtual m : 'a method n = s#m end", "let rec k x = k x", "let y = fun x -> x#m")
	typed, open := 0, 0
	for seed := range tries {
		w := &maker{rand.New(rand.NewSource(int64(seed))), []string{"x", "y", "f", "g", "k", "fst"}}
		text := w.expr(5)
		x, _, no := parse.Expr(text)
		if _, no2 := scope.Check(e, api.Phrase{Kind: api.PExpr, E: x}); no != api.OK || no2 != api.OK {
			continue
		}
		o := &oracle{e: e}
		o.v()
		n := o.expr(&x, nil)
		if len(o.rep) > 3000 {
			continue
		}
		got, no := infer.Type(e, x, api.MaxNodes)
		if o.fail != (no == api.ErrType) || no != api.OK && no != api.ErrType {
			t.Fatalf("%q: %d", text, no)
		}
		if o.fail {
			continue
		}
		typed++
		o.g.Root = o.rep[n]
		if want := canon.Key(o.g); canon.Key(got) != want {
			t.Fatalf("%q: %s, not %s", text, canon.Key(got), want)
		}
		if !inst.Closed(got) {
			open++
		}
	}
	if typed < 3000 || open < 2000 {
		t.Error(typed, open)
	}
}

// tries are how many expressions are made up.
const tries = 20000
