package eval

import (
	"trefoil/api"
	told "trefoil/value"
)

// frame is an expression that waits for a part's value; or an object, whose next member waits for it.
type frame struct {
	code *code
	env  *env
	left value // of two parts the first one's
	at   int   // which part is waited for
	made *making
}

// machine runs code. What waits stands in a list, since calls may be deeper than any stack.
type machine struct {
	fuel, steps int
	code        *code // what begins next, in env; nil, if v is what came of the last one
	env         *env
	v           value
	waiting     []frame
}

// phrase runs a phrase that is no class.
func (m *machine) phrase(c *compiler, p *api.Phrase) error {
	if p.Kind != api.PRec {
		m.begins(c.expr(&p.E, nil), nil)
		return m.run()
	}
	own := &env{}
	var a *around
	m.begins(c.expr(&p.E, a.bind(p.Name)), own)
	err := m.run()
	own.v = m.v
	return err
}

func (m *machine) begins(c *code, e *env) { m.code, m.env = c, e }

// comes is that a value came of what began last.
func (m *machine) comes(v value) { m.code, m.v = nil, v }

func (m *machine) wait(f frame) { m.waiting = append(m.waiting, f) }

// run goes on until a value came and nothing waits for it.
func (m *machine) run() error {
	for {
		var err error
		switch {
		case m.code != nil:
			err = m.begin(m.code)
		case len(m.waiting) == 0:
			return nil
		default:
			err = m.resume()
		}
		if err != nil {
			return err
		}
	}
}

// begin takes a step: the beginning of an expression.
func (m *machine) begin(c *code) error {
	if m.steps == m.fuel {
		return &halt{api.ErrFuel, errFuel}
	}
	m.steps++
	switch c.kind {
	case api.Num, api.Bool, api.Text, api.Unit:
		m.comes(c.v)
	case api.Var:
		return m.name(c)
	case api.Fun:
		m.comes(&function{c.parts[0], m.env})
	case api.Object:
		return m.goOn(newObject(c.made, m.env))
	case api.New:
		return m.newOf(c)
	case api.Clone:
		return m.clone(c)
	case api.Rec:
		m.env = &env{up: m.env}
		fallthrough
	case api.App, api.Let, api.Pair, api.If, api.Op, api.Seq, api.Send, api.Set:
		if c.sort == super && c.kind == api.Send {
			return m.callSuper(c)
		}
		m.wait(frame{code: c, env: m.env})
		fallthrough
	case api.Annot, api.Coerce:
		m.code = c.parts[0]
	}
	return nil
}

// name is what a name means.
func (m *machine) name(c *code) error {
	switch c.sort {
	case known:
		m.comes(c.v)
	case variable:
		m.comes(m.env.at(c.depth).v)
	case field:
		m.comes(*m.env.field(c))
	default:
		return stuck()
	}
	return nil
}

// field is where the object around has the field that a code names.
func (e *env) field(c *code) *value { return e.at(c.depth).v.(*object).field(c.s) }

// resume goes on with what waited last, since its part has a value.
func (m *machine) resume() error {
	last := len(m.waiting) - 1
	f := m.waiting[last]
	if f.made != nil {
		m.waiting = m.waiting[:last]
		return m.member(f.made, f.code)
	}
	if f.at == 0 && (f.code.kind == api.App || f.code.kind == api.Pair || f.code.kind == api.Op) {
		m.waiting[last].at, m.waiting[last].left = 1, m.v
		m.begins(f.code.parts[1], f.env)
		return nil
	}
	m.waiting[last] = frame{}
	m.waiting = m.waiting[:last]
	switch c := f.code; c.kind {
	case api.App:
		return m.apply(f.left, m.v)
	case api.Pair:
		m.comes(&pair{f.left, m.v})
	case api.Op:
		return m.op(c.s, f.left, m.v)
	case api.Send:
		return m.send(c)
	case api.Set:
		if c.sort != field {
			return stuck()
		}
		*f.env.field(c) = m.v
		m.comes(unit{})
	case api.If:
		return m.choose(c, f.env)
	case api.Rec:
		f.env.v = m.v
		m.begins(c.parts[1], f.env)
	case api.Let:
		f.env = &env{v: m.v, up: f.env}
		fallthrough
	case api.Seq:
		m.begins(c.parts[1], f.env)
	}
	return nil
}

func (m *machine) choose(c *code, e *env) error {
	test, ok := m.v.(truth)
	if !ok {
		return stuck()
	}
	if test {
		m.begins(c.parts[1], e)
	} else {
		m.begins(c.parts[2], e)
	}
	return nil
}

// op is what comes of two numbers.
func (m *machine) op(s string, left, right value) error {
	a, ok := left.(number)
	b, ok2 := right.(number)
	if !ok || !ok2 {
		return stuck()
	}
	if s == "=" || s == "<" {
		is, _ := told.Test(s, int64(a), int64(b))
		m.comes(truth(is))
		return nil
	}
	n, no := told.Num(s, int64(a), int64(b))
	if no != api.OK {
		return &halt{no, errOp}
	}
	m.comes(number(n))
	return nil
}

// apply calls a function.
func (m *machine) apply(f, arg value) error {
	switch x := f.(type) {
	case *function:
		m.begins(x.body, &env{v: arg, up: x.env})
		return nil
	case builtin:
		return m.builtin(x, arg)
	}
	return stuck()
}

func (m *machine) builtin(f builtin, arg value) error {
	switch x := arg.(type) {
	case *pair:
		switch f {
		case "fst":
			m.comes(x.a)
			return nil
		case "snd":
			m.comes(x.b)
			return nil
		}
	case truth:
		if f == "not" {
			m.comes(!x)
			return nil
		}
	}
	return stuck()
}

// send calls a method of the object that came.
func (m *machine) send(c *code) error {
	o, ok := m.v.(*object)
	if !ok {
		return stuck()
	}
	return m.call(o, o.made.methods[c.s], 0)
}

// callSuper calls, on the object around, the method that a super has.
func (m *machine) callSuper(c *code) error {
	in := m.env.at(c.depth)
	return m.call(in.v.(*object), c.method, in.level)
}

// call calls a method of an object, whose level is counted from another one.
func (m *machine) call(o *object, x method, from int) error {
	if x.body == nil {
		return stuck()
	}
	level := x.level
	if level != noLevel {
		level += from
	}
	m.begins(x.body, &env{v: o, level: level, up: o.around(level)})
	return nil
}
