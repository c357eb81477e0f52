package eval_test

import (
	"maps"
	"math/rand"
	"slices"
	"strings"
	"testing"

	"trefoil/api"
	"trefoil/eval"
	"trefoil/parse"
	told "trefoil/value"
)

// The oracle runs phrases as the chapter tells it, by names, with nothing looked up ahead.

// bound is what one name means, and all around it.
type bound struct {
	up    *bound
	kind  int // of those below
	name  string
	v     any
	class *klass
	o     *thing
	came  map[string]*way // of a super
}

const (
	aValue = iota
	aField
	aSuper
	aClass
	inMethod // of an object that knows some fields: no name
)

type klass struct {
	names []string
	x     *api.Expr
	env   *bound
}

type couple struct{ a, b any }

// native is a function that is there from the start.
type native string

type lambda struct {
	name string
	body *api.Expr
	env  *bound
}

type thing struct {
	fields  map[string]any
	methods map[string]*way
}

// way is a method, with what its object knows.
type way struct {
	body   *api.Expr
	env    *bound
	self   string
	knows  []string
	supers []*bound
}

type teller struct {
	env         *bound
	steps, fuel int
	unsure      bool // the chapter may be read in more than one way
}

func (t *teller) halt(no api.Errno) { panic(no) }

func (b *bound) find(name string, class bool) *bound {
	for ; b != nil; b = b.up {
		if b.kind != inMethod && b.name == name && (b.kind == aClass) == class {
			return b
		}
	}
	return nil
}

func (b *bound) value(name string, v any) *bound {
	return &bound{up: b, kind: aValue, name: name, v: v}
}

func (t *teller) eval(x *api.Expr, env *bound) any {
	if t.steps == t.fuel {
		t.halt(api.ErrFuel)
	}
	t.steps++
	part := func(i int) any { return t.eval(&x.Args[i], env) }
	switch x.Kind {
	case api.Var:
		b := env.find(x.S, false)
		if b == nil || b.kind == aSuper {
			t.halt(api.ErrStuck)
		}
		if b.kind == aField {
			return b.o.fields[x.S]
		}
		return b.v
	case api.Num:
		return x.N
	case api.Bool:
		return x.N == 1
	case api.Text:
		return x.S
	case api.Unit:
		return struct{}{}
	case api.Fun:
		return &lambda{x.S, &x.Args[0], env}
	case api.App:
		f := part(0)
		return t.apply(f, part(1))
	case api.Let:
		return t.eval(&x.Args[1], env.value(x.S, part(0)))
	case api.Rec:
		in := env.value(x.S, nil)
		in.v = t.eval(&x.Args[0], in)
		return t.eval(&x.Args[1], in)
	case api.Pair:
		a := part(0)
		return &couple{a, part(1)}
	case api.If:
		is, ok := part(0).(bool)
		if !ok {
			t.halt(api.ErrStuck)
		}
		if is {
			return part(1)
		}
		return part(2)
	case api.Op:
		a := part(0)
		if _, ok := a.(int64); !ok {
			t.unsure = true // before its other side begins, or behind it
		}
		return t.op(x.S, a, part(1))
	case api.Seq:
		part(0)
		return part(1)
	case api.Annot, api.Coerce:
		return part(0)
	case api.Set:
		v := part(0)
		b := env.find(x.S, false)
		if b == nil || b.kind != aField {
			t.halt(api.ErrStuck)
		}
		b.o.fields[x.S] = v
		return struct{}{}
	}
	return t.objects(x, env)
}

func (t *teller) apply(f, a any) any {
	switch g := f.(type) {
	case *lambda:
		return t.eval(g.body, g.env.value(g.name, a))
	case native:
		p, isPair := a.(*couple)
		is, isBool := a.(bool)
		switch {
		case isPair && g == "fst":
			return p.a
		case isPair && g == "snd":
			return p.b
		case isBool && g == "not":
			return !is
		}
	}
	t.halt(api.ErrStuck)
	return nil
}

func (t *teller) op(s string, a, b any) any {
	m, ok := a.(int64)
	n, ok2 := b.(int64)
	if !ok || !ok2 {
		t.halt(api.ErrStuck)
	}
	if is, no := told.Test(s, m, n); no == api.OK {
		return is
	}
	r, no := told.Num(s, m, n)
	if no != api.OK {
		t.halt(no)
	}
	return r
}

func (t *teller) call(o *thing, w *way) any {
	if w == nil {
		t.halt(api.ErrStuck)
	}
	env := &bound{up: w.env, kind: inMethod, o: o, came: map[string]*way{}}
	for _, s := range w.knows {
		env.came[s] = nil
	}
	for _, s := range w.knows {
		env = &bound{up: env, kind: aField, name: s, o: o}
	}
	for _, s := range w.supers {
		env = &bound{up: env, kind: aSuper, name: s.name, o: o, came: s.came}
	}
	if w.self != "" {
		env = env.value(w.self, o)
	}
	return t.eval(w.body, env)
}

func (t *teller) objects(x *api.Expr, env *bound) any {
	var args []any
	switch x.Kind {
	case api.Send:
		if x.Args[0].Kind == api.Var {
			if b := env.find(x.Args[0].S, false); b != nil && b.kind == aSuper {
				return t.call(b.o, b.came[x.S])
			}
		}
		o, ok := t.eval(&x.Args[0], env).(*thing)
		if !ok {
			t.halt(api.ErrStuck)
		}
		return t.call(o, o.methods[x.S])
	case api.New:
		b := env.find(x.S, true)
		if b == nil || len(b.class.names) != len(x.Args) {
			t.halt(api.ErrStuck)
		}
		for i := range x.Args {
			args = append(args, t.eval(&x.Args[i], env))
		}
		o := &thing{fields: map[string]any{}}
		o.methods = t.inherit(b.class, args, o)
		return o
	case api.Clone:
		in := env
		for in != nil && in.kind != inMethod {
			in = in.up
		}
		for _, s := range x.Names {
			if in == nil {
				break
			}
			if _, ok := in.came[s]; !ok {
				t.halt(api.ErrStuck)
			}
		}
		if in == nil {
			t.halt(api.ErrStuck)
		}
		was := maps.Clone(in.o.fields)
		for i := range x.Args {
			args = append(args, t.eval(&x.Args[i], env))
		}
		t.unsure = t.unsure || !maps.Equal(was, in.o.fields) // what its fields have now, or had ahead of the Args
		o := &thing{map[string]any{}, in.o.methods}
		for s, v := range in.o.fields {
			o.fields[s] = v
		}
		for i, s := range x.Names {
			o.fields[s] = args[i]
		}
		return o
	}
	o := &thing{fields: map[string]any{}}
	o.methods = t.members(x, env, o)
	return o
}

// inherit makes a class's members, and is its methods.
func (t *teller) inherit(k *klass, args []any, o *thing) map[string]*way {
	env := k.env
	for i, s := range k.names {
		env = env.value(s, args[i])
	}
	return t.members(k.x, env, o)
}

// knows are the fields that an object knows.
func knows(x *api.Expr, env *bound) []string {
	var l []string
	for _, m := range x.Members {
		if m.Kind == api.Val {
			l = append(l, m.Name)
		}
		if b := env.find(m.Name, true); m.Kind == api.Inherit && b != nil {
			l = append(l, knows(b.class.x, b.class.env)...)
		}
	}
	return l
}

func (t *teller) members(x *api.Expr, env *bound, o *thing) map[string]*way {
	methods := map[string]*way{}
	var supers []*bound
	var own []*way
	for i := range x.Members {
		m := &x.Members[i]
		switch m.Kind {
		case api.Inherit:
			b := env.find(m.Name, true)
			if b == nil || len(b.class.names) != len(m.Args) {
				t.halt(api.ErrStuck)
			}
			var args []any
			for j := range m.Args {
				args = append(args, t.eval(&m.Args[j], env))
			}
			came := t.inherit(b.class, args, o)
			for s, w := range came {
				methods[s] = w
			}
			if m.As != "" {
				supers = append(supers, &bound{name: m.As, came: came})
			}
		case api.Val:
			o.fields[m.Name] = t.eval(&m.Args[0], env)
		case api.Method:
			w := &way{body: &m.Args[0], env: env, self: x.S, knows: knows(x, env)}
			methods[m.Name] = w
			own = append(own, w)
		}
	}
	for _, w := range own {
		w.supers = supers
	}
	return methods
}

func (t *teller) text(v any, pairs int) string {
	switch x := v.(type) {
	case int64:
		return told.Int(x)
	case bool:
		return told.Bool(x)
	case string:
		return told.Text(x)
	case struct{}:
		return "()"
	case *thing:
		return "<obj>"
	case *couple:
		if pairs == 10 {
			return ".."
		}
		return told.Pair(t.text(x.a, pairs+1), t.text(x.b, pairs+1))
	}
	return "<fun>"
}

func (t *teller) do(p api.Phrase, fuel int) (s string, no api.Errno) {
	t.steps, t.fuel = 0, fuel
	if p.Kind == api.PClass {
		t.env = &bound{up: t.env, kind: aClass, name: p.Name, class: &klass{p.Names, &p.E, t.env}}
		return "", api.OK
	}
	defer func() {
		if r := recover(); r != nil {
			s, no = "", r.(api.Errno)
		}
	}()
	var v any
	if p.Kind == api.PRec {
		in := t.env.value(p.Name, nil)
		in.v = t.eval(&p.E, in)
		v = in.v
	} else {
		v = t.eval(&p.E, t.env)
	}
	if p.Kind != api.PExpr {
		t.env = t.env.value(p.Name, v)
	}
	return t.text(v, 0), api.OK
}

// maker makes up phrases, most of which have no type.
type maker struct{ *rand.Rand }

func (w *maker) one(l ...string) string { return l[w.Intn(len(l))] }

func (w *maker) name() string { return w.one("x", "y", "f", "o", "s", "p", "v", "w", "fst") }

func (w *maker) expr(n int) string {
	if n <= 0 {
		return w.one("1", "0", "true", "()", w.name(), w.name(), w.name(), w.name(), "p#m", "p#n", "s#m", "s#n", "{< >}")
	}
	x := func() string { return w.expr(w.Intn(n)) }
	switch w.Intn(16) {
	case 0:
		return "(fun " + w.name() + " -> " + x() + ")"
	case 1:
		return "(" + x() + " " + x() + ")"
	case 2:
		return "(let " + w.name() + " = " + x() + " in " + x() + ")"
	case 3:
		return "(let rec f x = " + x() + " in " + x() + ")"
	case 4:
		return "(" + x() + ", " + x() + ")"
	case 5:
		return "(if " + x() + " then " + x() + " else " + x() + ")"
	case 6, 7:
		return "(" + x() + w.one(" + ", " / ", " < ") + x() + ")"
	case 8:
		return "(" + x() + "; " + x() + ")"
	case 9:
		return "(" + w.one("v", "w", "v", "x") + " <- " + x() + ")"
	case 10:
		return "{< " + w.one("v", "w") + " = " + x() + " >}"
	case 11:
		return "(new " + w.one("c", "d", "e") + strings.Repeat(" "+x(), w.Intn(3)/2) + ")"
	case 12, 13:
		return x() + "#" + w.one("m", "n")
	}
	return w.object(n)
}

func (w *maker) object(n int) string {
	s := "object " + w.one("", "(s) ", "(x) ", "(s) ")
	for range w.Intn(6) {
		switch w.Intn(4) {
		case 0:
			s += "inherit " + w.one("c", "d", "e") + strings.Repeat(" "+w.expr(n-2), w.Intn(3)/2) + w.one(" as p ", " as p ", " as x ", " ")
		case 1:
			s += "val " + w.one("v", "w", "x") + " = " + w.expr(n-2) + " "
		default:
			s += "method " + w.one("m", "n") + " = " + w.expr(n-1) + " "
		}
	}
	return s + "end"
}

func (w *maker) phrase() string {
	switch w.Intn(5) {
	case 0:
		return "let " + w.one("x", "y", "o", "o") + " = " + w.expr(4)
	case 1:
		return "class " + w.one("c", "d", "e") + w.one("", "", " x") + " = " + w.object(4)
	case 2:
		return "let rec f x = " + w.expr(3)
	}
	return w.expr(5)
}

// P19.1, P19.2: the same values and steps as the chapter tells.
func TestOracle(t *testing.T) {
	count := map[api.Errno]int{}
	for seed := range talks {
		w := &maker{rand.New(rand.NewSource(int64(seed)))}
		s := eval.New()
		o := &teller{}
		for _, name := range []string{"fst", "snd", "not"} {
			o.env = o.env.value(name, native(name))
		}
		l := []string{"let x = 1", "let o = object val v = 1 method m = v end", "class c = object (s) val v = 1 method m = v method n = s#m end", "class d x = object val w = x inherit c as p method m = (p#m, w) end", "class e = object end"}
		for range 40 {
			l = append(l, w.phrase())
		}
		for i, text := range l {
			p, _, no := parse.Parse(text)
			if no != api.OK {
				t.Fatal(text)
			}
			want, wantNo := o.do(p, 300)
			if o.unsure {
				break
			}
			got, no := s.Do(p, 300)
			count[no]++
			if got != want || no != wantNo || s.Steps() != o.steps {
				t.Fatalf("%q\n%q %d in %d, not %q %d in %d", slices.Clone(l[:i+1]), got, no, s.Steps(), want, wantNo, o.steps)
			}
		}
	}
	if count[api.OK] < 1000 || count[api.ErrStuck] < 1000 || count[api.ErrZero] < 1 {
		t.Error(count)
	}
}

// talks are how many talks are made up.
const talks = 500
