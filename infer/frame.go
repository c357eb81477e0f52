package infer

// What a name may be bound as.
const (
	mono    = iota
	general // each instance of a node's type
	super
	fields // of an object: more names than one
)

// frame is what is bound at one place, and all around it.
type frame struct {
	around *frame
	kind   int
	name   string
	node   int
	above  int     // of a general one: what stands above that level is its own
	o      *object // whose fields, or whose super
}

func (f *frame) bind(name string, node int) *frame {
	return &frame{around: f, kind: mono, name: name, node: node}
}

// look is where a name is bound, nil if nowhere; of a field with its node.
func (f *frame) look(name string) *frame {
	for ; f != nil; f = f.around {
		if f.kind == fields {
			if n, ok := f.o.fields[name]; ok {
				return &frame{kind: mono, name: name, node: n, o: f.o}
			}
		} else if f.name == name {
			return f
		}
	}
	return nil
}

// object is the innermost one in whose method's body it is, nil if there is none.
func (f *frame) object() *object {
	for ; f != nil; f = f.around {
		if f.kind == fields {
			return f.o
		}
	}
	return nil
}
