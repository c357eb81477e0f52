// Package unite keeps nodes of types, some of which are made one.
package unite

import (
	"errors"
	"slices"
	"strconv"

	"trefoil/api"
)

// ErrKinds, ErrNames and ErrLabels say why two nodes can't be one.
var (
	ErrKinds  = errors.New("one is an object, one is none")
	ErrNames  = errors.New("their constructors have other names")
	ErrLabels = errors.New("one has a label that the other one may not have")
)

// Clash is two nodes that can't be one, and why.
type Clash struct {
	A, B int
	Err  error
}

func (c *Clash) Error() string {
	return strconv.Itoa(c.A) + " and " + strconv.Itoa(c.B) + ": " + c.Err.Error()
}
func (c *Clash) Unwrap() error { return c.Err }

// cell is a node, and, if it stands for its class, what the class is.
type cell struct {
	up     int // another node of the class, itself if it stands for it
	size   int
	least  int
	level  int
	kind   int
	name   string
	args   []int
	labels []string
	has    map[string]int // an object's labels, once it is one with another object: then args and labels are none
	open   bool
}

// Store is nodes. Each has a level: what a node leads to has no greater one.
type Store struct{ cells []cell }

// Len is how many nodes there are.
func (s *Store) Len() int { return len(s.cells) }

// Add puts a node, whose Args may be added later; what it is given isn't changed.
func (s *Store) Add(n api.Node, level int) int {
	i := len(s.cells)
	s.cells = append(s.cells, cell{up: i, size: 1, least: i, level: level, kind: n.Kind, name: n.Name, args: n.Args, labels: n.Labels, open: n.Open})
	return i
}

// AddGraph puts all nodes of a graph, and is the node of its Root.
func (s *Store) AddGraph(g api.Graph, level int) int {
	from := len(s.cells)
	for _, n := range g.N {
		args := make([]int, len(n.Args))
		for i, a := range n.Args {
			args[i] = from + a
		}
		n.Args = args
		s.Add(n, level)
	}
	return from + g.Root
}

// Find is the node that stands for a node's class.
func (s *Store) Find(n int) int {
	for s.cells[n].up != n {
		s.cells[n].up = s.cells[s.cells[n].up].up
		n = s.cells[n].up
	}
	return n
}

// Least is the least node of a node's class.
func (s *Store) Least(n int) int { return s.cells[s.Find(n)].least }

// Node is what a node's class is; its Args are some nodes of their classes.
func (s *Store) Node(n int) api.Node {
	c := &s.cells[s.Find(n)]
	if c.has == nil {
		return api.Node{Kind: c.kind, Name: c.name, Open: c.open, Args: slices.Clone(c.args), Labels: slices.Clone(c.labels)}
	}
	x := api.Node{Kind: c.kind, Open: c.open}
	for s := range c.has {
		x.Labels = append(x.Labels, s)
	}
	slices.Sort(x.Labels)
	for _, s := range x.Labels {
		x.Args = append(x.Args, c.has[s])
	}
	return x
}

// Unite makes two nodes one, and all that must be one then; of an error the store is good for nothing.
func (s *Store) Unite(a, b int) error {
	todo := [][2]int{{a, b}}
	for len(todo) > 0 {
		p := todo[len(todo)-1]
		todo = todo[:len(todo)-1]
		x, y := s.Find(p[0]), s.Find(p[1])
		if x == y {
			continue
		}
		if s.cells[x].size < s.cells[y].size {
			x, y = y, x
		}
		more, err := s.join(x, y)
		if err != nil {
			return &Clash{p[0], p[1], err}
		}
		todo = append(todo, more...)
	}
	return nil
}

// join puts the class of y into the one of x, and tells what must be one then.
func (s *Store) join(x, y int) ([][2]int, error) {
	level := min(s.cells[x].level, s.cells[y].level)
	s.Lower(x, level)
	s.Lower(y, level)
	c, d := &s.cells[x], &s.cells[y]
	var more [][2]int
	var err error
	switch {
	case d.kind == api.NVar:
	case c.kind == api.NVar:
		c.kind, c.name, c.args, c.labels, c.has, c.open = d.kind, d.name, d.args, d.labels, d.has, d.open
	case c.kind != d.kind:
		err = ErrKinds
	case c.kind == api.NObj:
		more, err = c.joinObject(d)
	case c.name != d.name:
		err = ErrNames
	default:
		for i, a := range c.args {
			more = append(more, [2]int{a, d.args[i]})
		}
	}
	c.size += d.size
	c.least = min(c.least, d.least)
	*d = cell{up: x}
	return more, err
}

// count is how many labels an object has.
func (c *cell) count() int { return len(c.labels) + len(c.has) }

// joinObject gives an object what another one has. The one that has less goes through its labels.
func (c *cell) joinObject(d *cell) ([][2]int, error) {
	small, big := d, c
	if c.count() < d.count() {
		small, big = c, d
	}
	if big.has == nil {
		big.has = make(map[string]int, len(big.labels))
		for i, s := range big.labels {
			big.has[s] = big.args[i]
		}
		big.labels, big.args = nil, nil
	}
	var more [][2]int
	was := len(big.has)
	put := func(label string, n int) {
		if m, ok := big.has[label]; ok {
			more = append(more, [2]int{m, n})
		} else {
			big.has[label] = n
		}
	}
	for i, s := range small.labels {
		put(s, small.args[i])
	}
	for s, n := range small.has {
		put(s, n)
	}
	if !big.open && len(big.has) > was || !small.open && len(big.has) > small.count() {
		return nil, ErrLabels
	}
	c.open = big.open && small.open
	c.has, c.labels, c.args = big.has, nil, nil
	return more, nil
}
