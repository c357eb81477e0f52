package eval

import "slices"

// making is an object that is being made: the level that is at work, and its next member.
type making struct {
	o     *object
	made  *layout
	env   *env // what is bound around that level
	next  int
	args  []value // of the class that is being inherited, or made, or of a clone: those that came
	after *making // the level that goes on once this one is done
}

// newObject is the making of an object of a layout.
func newObject(l *layout, e *env) *making {
	o := &object{made: l, fields: make([]value, len(l.slots))}
	return o.enter(l, e, nil)
}

// enter is the making of a level of an object.
func (o *object) enter(l *layout, e *env, after *making) *making {
	if l.level != noLevel {
		o.envs = append(o.envs, e)
	}
	return &making{o: o, made: l, env: e, after: after}
}

// params is an env of a class's parameters.
func params(args []value) *env {
	var e *env
	for _, v := range args {
		e = &env{v: v, up: e}
	}
	return e
}

// goOn makes members until one waits for a value, or the object is made.
func (m *machine) goOn(k *making) error {
	for k != nil {
		if k.next == len(k.made.members) {
			if k.after == nil {
				m.comes(k.o)
			}
			k = k.after
			continue
		}
		x := &k.made.members[k.next]
		if !x.isVal && (x.class == nil || x.class.params != len(x.args)) {
			return stuck()
		}
		if len(k.args) < len(x.args) {
			m.wait(frame{made: k})
			m.begins(x.args[len(k.args)], k.env)
			return nil
		}
		e := params(k.args)
		k.next++
		k.args = nil
		if x.class.made.level != noLevel {
			k = k.o.enter(x.class.made, e, k)
		}
	}
	return nil
}

// member gives what is being made the value that it waits for: of a clone, or of a new, that is told in c.
func (m *machine) member(k *making, c *code) error {
	k.args = append(k.args, m.v)
	switch {
	case c != nil:
		return m.gather(k, c)
	case k.made.members[k.next].isVal:
		*k.o.field(k.made.members[k.next].name) = m.v
		k.next++
		k.args = nil
	}
	return m.goOn(k)
}

// newOf begins an object of a class.
func (m *machine) newOf(c *code) error {
	if c.class == nil || c.class.params != len(c.parts) {
		return stuck()
	}
	return m.gather(&making{env: m.env}, c)
}

// clone begins a clone of the object around.
func (m *machine) clone(c *code) error {
	if c.made == nil {
		return stuck()
	}
	for _, s := range c.names {
		if !c.made.has(s) {
			return stuck()
		}
	}
	return m.gather(&making{env: m.env}, c)
}

// gather waits for the next Arg of a new, or of a clone; and makes it, if all are there.
func (m *machine) gather(k *making, c *code) error {
	if len(k.args) < len(c.parts) {
		m.wait(frame{made: k, code: c})
		m.begins(c.parts[len(k.args)], k.env)
		return nil
	}
	if c.class != nil {
		return m.goOn(newObject(c.class.made, params(k.args)))
	}
	o := *k.env.at(c.depth).v.(*object)
	o.fields = slices.Clone(o.fields)
	for i, s := range c.names {
		*o.field(s) = k.args[i]
	}
	m.comes(&o)
	return nil
}
