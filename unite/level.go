package unite

import (
	"slices"

	"trefoil/api"
)

// Lower gives a node, and all that it leads to, no greater level than that.
func (s *Store) Lower(n, level int) {
	todo := []int{n}
	for len(todo) > 0 {
		c := &s.cells[s.Find(todo[len(todo)-1])]
		todo = todo[:len(todo)-1]
		if c.level > level {
			c.level = level
			todo = c.below(todo)
		}
	}
}

// below puts behind a list a class's Args, in any order.
func (c *cell) below(todo []int) []int {
	todo = append(todo, c.args...)
	for _, a := range c.has {
		todo = append(todo, a)
	}
	return todo
}

// above are the classes above a level that a node leads to, itself among them.
func (s *Store) above(n, level int) []int {
	var l []int
	seen := map[int]struct{}{}
	todo := []int{n}
	for len(todo) > 0 {
		m := s.Find(todo[len(todo)-1])
		todo = todo[:len(todo)-1]
		if _, ok := seen[m]; ok || s.cells[m].level <= level {
			continue
		}
		seen[m] = struct{}{}
		l = append(l, m)
		todo = s.cells[m].below(todo)
	}
	return l
}

// Settle lowers to a level all that a node leads to and that leads to no free node above that level: only what does is worth a copy.
func (s *Store) Settle(n, level int) {
	l := s.above(n, level)
	from := map[int][]int{}
	var general []int
	for _, m := range l {
		c := &s.cells[m]
		if c.kind == api.NVar || c.open {
			general = append(general, m)
		}
		for _, a := range c.below(nil) {
			a = s.Find(a)
			from[a] = append(from[a], m)
		}
	}
	kept := map[int]struct{}{}
	for len(general) > 0 {
		m := general[len(general)-1]
		general = general[:len(general)-1]
		if _, ok := kept[m]; !ok {
			kept[m] = struct{}{}
			general = append(general, from[m]...)
		}
	}
	for _, m := range l {
		if _, ok := kept[m]; !ok {
			s.cells[m].level = level
		}
	}
}

// Fresh is a node's copy, in which all that is above a level is new and has the level to; false, if there is no room for so many nodes.
func (s *Store) Fresh(n, above, to, room int) (int, bool) {
	l := s.above(n, above)
	if len(l) > room {
		return 0, false
	}
	copies := map[int]int{}
	for i, m := range l {
		copies[m] = len(s.cells) + i
	}
	for _, m := range l {
		x := s.Node(m)
		for i, a := range x.Args {
			if c, ok := copies[s.Find(a)]; ok {
				x.Args[i] = c
			}
		}
		s.Add(x, to)
	}
	if c, ok := copies[s.Find(n)]; ok {
		return c, true
	}
	return n, true
}

// Graph is what a node leads to, as a graph of its own.
func (s *Store) Graph(n int) api.Graph {
	place := map[int]int{s.Find(n): 0}
	order := []int{s.Find(n)}
	var g api.Graph
	for i := 0; i < len(order); i++ {
		x := s.Node(order[i])
		for j, a := range x.Args {
			a = s.Find(a)
			at, ok := place[a]
			if !ok {
				at = len(order)
				place[a] = at
				order = append(order, a)
			}
			x.Args[j] = at
		}
		g.N = append(g.N, x)
	}
	return g
}

// Label is the node of an object's label, false if it has none.
func (s *Store) Label(n int, label string) (int, bool) {
	c := &s.cells[s.Find(n)]
	if c.has != nil {
		a, ok := c.has[label]
		return a, ok
	}
	i, ok := slices.BinarySearch(c.labels, label)
	if !ok || i >= len(c.args) {
		return 0, false
	}
	return c.args[i], true
}

// Shut closes an object: it may have no more labels than it has.
func (s *Store) Shut(n int) { s.cells[s.Find(n)].open = false }
