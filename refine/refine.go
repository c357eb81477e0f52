// Package refine finds which nodes of a type's graph are alike.
//
// Nodes that look alike begin in one block; blocks are split as long as some node of one leads to another block than some other does. Of a block that is split the smaller part alone is asked who leads there, so that great graphs are done soon.
package refine

import (
	"cmp"
	"slices"
	"strings"

	"trefoil/api"
)

// edge is who leads to a node, and by which of its Args.
type edge struct{ arg, from int }

// partition is blocks of nodes.
type partition struct {
	nodes  []int // block by block, of each the marked ones first
	place  []int // by node, where it stands there
	block  []int // by node
	from   []int // by block, where it begins, ends, and where its marked ones end
	to     []int
	marked []int
	todo   []int // blocks that were not asked who leads there
}

// Classes tells of each node of a graph, which may be, the least one that it is alike to.
func Classes(g api.Graph) []int {
	p := begin(g)
	in := edges(g)
	for len(p.todo) > 0 {
		b := p.todo[len(p.todo)-1]
		p.todo = p.todo[:len(p.todo)-1]
		var l []edge
		for _, n := range p.nodes[p.from[b]:p.to[b]] {
			l = append(l, in[n]...)
		}
		slices.SortFunc(l, func(x, y edge) int { return cmp.Compare(x.arg, y.arg) })
		for len(l) > 0 {
			n := 1
			for n < len(l) && l[n].arg == l[0].arg {
				n++
			}
			p.split(l[:n])
			l = l[n:]
		}
	}
	return p.least()
}

// edges tells of each node who leads there.
func edges(g api.Graph) [][]edge {
	count := make([]int, len(g.N))
	all := 0
	for i := range g.N {
		for _, a := range g.N[i].Args {
			count[a]++
			all++
		}
	}
	room := make([]edge, all)
	in := make([][]edge, len(g.N))
	for i, n := range count {
		in[i], room = room[:0:n], room[n:]
	}
	for i := range g.N {
		for j, a := range g.N[i].Args {
			in[a] = append(in[a], edge{j, i})
		}
	}
	return in
}

// look is what a node looks like, its Args apart, "" if it is like none but itself.
func look(n *api.Node) string {
	switch {
	case n.Kind == api.NVar || n.Open:
		return ""
	case n.Kind == api.NObj:
		return "<" + strings.Join(n.Labels, " ")
	}
	return n.Name
}

// begin puts nodes together that look alike.
func begin(g api.Graph) *partition {
	p := &partition{place: make([]int, len(g.N)), block: make([]int, len(g.N))}
	looks := map[string]int{}
	var count []int
	for i := range g.N {
		s := look(&g.N[i])
		b, ok := looks[s]
		if !ok || s == "" {
			b = len(count)
			looks[s] = b
			count = append(count, 0)
		}
		p.block[i] = b
		count[b]++
	}
	at := 0
	for b, n := range count {
		p.add(at, at)
		p.todo = append(p.todo, b)
		at += n
	}
	p.nodes = make([]int, len(g.N))
	for i, b := range p.block {
		p.place[i] = p.to[b]
		p.nodes[p.to[b]] = i
		p.to[b]++
	}
	return p
}

func (p *partition) add(from, to int) {
	p.from = append(p.from, from)
	p.to = append(p.to, to)
	p.marked = append(p.marked, from)
}

// split parts all blocks by who leads to one block by one Arg.
func (p *partition) split(l []edge) {
	var touched []int
	for _, e := range l {
		b := p.block[e.from]
		if p.marked[b] == p.from[b] {
			touched = append(touched, b)
		}
		p.swap(e.from, p.marked[b])
		p.marked[b]++
	}
	for _, b := range touched {
		p.part(b)
	}
}

// swap puts a node to a place, and what stands there to its own.
func (p *partition) swap(n, to int) {
	other, from := p.nodes[to], p.place[n]
	p.nodes[to], p.nodes[from] = n, other
	p.place[n], p.place[other] = to, from
}

// part makes a new block of the marked ones of a block, or of the others, whichever are less.
func (p *partition) part(b int) {
	from, cut, to := p.from[b], p.marked[b], p.to[b]
	p.marked[b] = from
	if cut == to {
		return
	}
	c := len(p.from)
	if cut-from <= to-cut {
		p.add(from, cut)
		p.from[b], p.marked[b] = cut, cut
	} else {
		p.add(cut, to)
		p.to[b] = cut
	}
	for _, n := range p.nodes[p.from[c]:p.to[c]] {
		p.block[n] = c
	}
	p.todo = append(p.todo, c)
}

// least tells of each node the least one of its block.
func (p *partition) least() []int {
	first := make([]int, len(p.from))
	l := make([]int, len(p.block))
	for i, b := range slices.Backward(p.block) {
		first[b] = i
	}
	for i, b := range p.block {
		l[i] = first[b]
	}
	return l
}
