package infer

import (
	"errors"

	"trefoil/api"
	"trefoil/env"
	"trefoil/load"
	"trefoil/unite"
)

var (
	errBudget = errors.New("it takes more nodes than there may be")
	errType   = errors.New("there is no type")
)

// fault wraps what is wrong with how it came.
type fault struct {
	how string
	err error
}

func (f *fault) Error() string { return f.err.Error() + ": " + f.how }
func (f *fault) Unwrap() error { return f.err }

// walker finds types as nodes of a store. Once something is wrong it does nothing more, and all nodes are 0.
//
// A node's level is how many lets there are around it; what a let's name has above its own level no mono reaches, so that it may be any.
type walker struct {
	e       *env.Env
	s       unite.Store
	level   int
	budget  int
	base    map[string]int // nodes of int, bool, string, unit: one for all
	values  map[string]api.Graph
	classes map[string]env.Class
	err     error
}

// fail keeps what is wrong first.
func (w *walker) fail(how string, err error) {
	if w.err == nil {
		w.err = &fault{how, err}
	}
}

// room says whether there may be so many nodes more.
func (w *walker) room(nodes int) bool {
	if w.err == nil && w.s.Len()+nodes > w.budget {
		w.fail("a node more", errBudget)
	}
	return w.err == nil
}

func (w *walker) add(n api.Node) int {
	if !w.room(1) {
		return 0
	}
	return w.s.Add(n, w.level)
}

func (w *walker) variable() int { return w.add(api.Node{Kind: api.NVar}) }

func (w *walker) con(name string, args ...int) int {
	return w.add(api.Node{Kind: api.NCon, Name: name, Args: args})
}

// plain is the node of a type without Args.
func (w *walker) plain(name string) int {
	n, ok := w.base[name]
	if !ok {
		n = w.con(name)
		if w.err == nil {
			w.base[name] = n
			w.s.Lower(n, 0)
		}
	}
	return n
}

// graph puts a graph's nodes, and is the one that stands for its node 0.
func (w *walker) graph(g api.Graph) int {
	if !w.room(len(g.N)) {
		return 0
	}
	return w.s.AddGraph(g, w.level) - g.Root
}

// written is the node of a type as it is written, its variables being any.
func (w *walker) written(t api.Type) int {
	g, no := load.Load(t)
	if no != api.OK {
		w.fail("a type that is none", errType)
	}
	return w.graph(g) + g.Root
}

// unite makes two nodes one.
func (w *walker) unite(a, b int) {
	if w.err != nil {
		return
	}
	if err := w.s.Unite(a, b); err != nil {
		w.fail(err.Error(), errType)
	}
}

// label is the node of an object's label, which it has from now on.
func (w *walker) label(o int, name string) int {
	if w.err != nil {
		return 0
	}
	if n, ok := w.s.Label(o, name); ok {
		return n
	}
	n := w.variable()
	w.unite(o, w.add(api.Node{Kind: api.NObj, Labels: []string{name}, Args: []int{n}, Open: true}))
	return n
}
