package scope

import (
	"trefoil/api"
	"trefoil/tree"
)

// Free are an expression's names that it doesn't bind.
func Free(e api.Expr) []string {
	if tree.Check(e) != api.OK {
		return nil
	}
	f := finder{bound: map[string]int{}, told: map[string]struct{}{}}
	f.expr(&e)
	return f.names
}

// finder lists names, each once, that are bound nowhere around.
type finder struct {
	bound map[string]int // how many bindings around a name has
	told  map[string]struct{}
	names []string
}

func (f *finder) ask(name string) {
	if _, ok := f.told[name]; !ok && f.bound[name] == 0 {
		f.told[name] = struct{}{}
		f.names = append(f.names, name)
	}
}

// within goes through what has some names bound around it.
func (f *finder) within(names []string, through func()) {
	for _, s := range names {
		f.bound[s]++
	}
	through()
	for _, s := range names {
		f.bound[s]--
	}
}

func (f *finder) all(l []api.Expr) {
	for i := range l {
		f.expr(&l[i])
	}
}

func (f *finder) expr(x *api.Expr) {
	own := []string{x.S}
	switch x.Kind {
	case api.Rec:
		f.within(own, func() { f.all(x.Args) })
	case api.Let:
		f.expr(&x.Args[0])
		f.within(own, func() { f.expr(&x.Args[1]) })
	case api.Fun:
		f.within(own, func() { f.all(x.Args) })
	case api.Object:
		f.object(x)
	case api.Set, api.Var:
		f.ask(x.S)
		fallthrough
	default:
		f.all(x.Args)
	}
}

func (f *finder) object(x *api.Expr) {
	names := []string{x.S}
	for i := range x.Members {
		m := &x.Members[i]
		switch m.Kind {
		case api.Val:
			names = append(names, m.Name)
			fallthrough
		case api.Inherit:
			names = append(names, m.As)
			f.all(m.Args)
		}
	}
	f.within(names, func() {
		for i := range x.Members {
			if x.Members[i].Kind == api.Method {
				f.all(x.Members[i].Args)
			}
		}
	})
}
