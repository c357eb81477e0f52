package graph

import (
	"slices"

	"trefoil/api"
)

// pair is a node of one graph and one of another that are matched.
type pair struct{ a, b int }

// matching is what is matched by now. Nodes that are matched, by whatever way, are in one class: those that are in one already need no second look, since what is matched with the same is matched.
type matching struct {
	g, h api.Graph
	seen map[pair]struct{}
	up   []int // by node, those of h behind those of g: another one of the class, or itself
	size []int
}

// Same says whether two graphs are the same type.
func Same(g, h api.Graph) bool {
	if Check(g) != api.OK || Check(h) != api.OK {
		return false
	}
	m := matching{g: g, h: h, seen: map[pair]struct{}{}}
	for i := range len(g.N) + len(h.N) {
		m.up = append(m.up, i)
		m.size = append(m.size, 1)
	}
	todo := []pair{{g.Root, h.Root}}
	for len(todo) > 0 {
		p := todo[len(todo)-1]
		todo = todo[:len(todo)-1]
		if _, done := m.seen[p]; done {
			continue
		}
		m.seen[p] = struct{}{}
		if m.one(p) {
			continue
		}
		x, y := &g.N[p.a], &h.N[p.b]
		if !m.match(p, x, y) {
			return false
		}
		for i := range x.Args {
			todo = append(todo, pair{x.Args[i], y.Args[i]})
		}
	}
	return true
}

func (m *matching) find(n int) int {
	for m.up[n] != n {
		m.up[n] = m.up[m.up[n]]
		n = m.up[n]
	}
	return n
}

// one says whether both nodes of a pair are in one class already.
func (m *matching) one(p pair) bool { return m.find(p.a) == m.find(len(m.g.N)+p.b) }

// match puts the nodes x and y of a pair into one class, if they look alike; a class of free nodes has but one of either graph.
func (m *matching) match(p pair, x, y *api.Node) bool {
	if x.Kind != y.Kind || x.Name != y.Name || x.Open != y.Open || !slices.Equal(x.Labels, y.Labels) {
		return false
	}
	a, b := m.find(p.a), m.find(len(m.g.N)+p.b)
	if m.size[a] < m.size[b] {
		a, b = b, a
	}
	m.up[b] = a
	m.size[a] += m.size[b]
	return !isFree(x) || m.size[a] == 2
}
