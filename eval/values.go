package eval

import told "trefoil/value"

// value is what an expression comes to: one of the types below.
type value any

type (
	number int64
	truth  bool
	words  string
	unit   struct{}
	pair   struct{ a, b value }
)

// builtin is a function that is there from the start, by its name.
type builtin string

// function is one with what is bound around it.
type function struct {
	body *code
	env  *env
}

// object is fields, and methods with what was bound around them: each class that it was made of has a level, which has an env of its own.
type object struct {
	made   *layout
	envs   []*env
	fields []value
}

// around is what is bound around an object's methods of a level.
func (o *object) around(level int) *env {
	if level == noLevel {
		return nil
	}
	return o.envs[level]
}

// field is where an object has a field.
func (o *object) field(name string) *value { return &o.fields[o.made.slots[name]] }

// env is one binding, and all around it: a variable's value, or an object in whose method, of a level, it is.
type env struct {
	v     value
	level int
	up    *env
}

// at is the binding that stands so many outwards.
func (e *env) at(depth int) *env {
	for range depth {
		e = e.up
	}
	return e
}

// manyPairs is within how many pairs a pair isn't told any more.
const manyPairs = 10

// text is a value as a text, within so many pairs.
func text(v value, pairs int) string {
	switch x := v.(type) {
	case number:
		return told.Int(int64(x))
	case truth:
		return told.Bool(bool(x))
	case words:
		return told.Text(string(x))
	case unit:
		return "()"
	case *pair:
		if pairs == manyPairs {
			return ".."
		}
		return told.Pair(text(x.a, pairs+1), text(x.b, pairs+1))
	case *object:
		return "<obj>"
	}
	return "<fun>"
}
