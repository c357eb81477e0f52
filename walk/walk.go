// Package walk goes through graphs whose nodes may be, however many there are.
package walk

import (
	"slices"

	"trefoil/api"
)

// Reach are the nodes that are reached, in order.
func Reach(g api.Graph) []int {
	var order []int
	seen := make([]bool, len(g.N))
	todo := []int{g.Root}
	for len(todo) > 0 {
		n := todo[len(todo)-1]
		todo = todo[:len(todo)-1]
		if seen[n] {
			continue
		}
		seen[n] = true
		order = append(order, n)
		for _, a := range slices.Backward(g.N[n].Args) {
			if !seen[a] {
				todo = append(todo, a)
			}
		}
	}
	return order
}

// Trim is a graph of the nodes that are reached alone.
func Trim(g api.Graph) api.Graph {
	order := Reach(g)
	place := make([]int, len(g.N))
	for i, n := range order {
		place[n] = i
	}
	t := api.Graph{N: make([]api.Node, len(order))}
	for i, n := range order {
		t.N[i] = g.N[n]
		t.N[i].Labels = slices.Clone(g.N[n].Labels)
		t.N[i].Args = make([]int, len(g.N[n].Args))
		for j, a := range g.N[n].Args {
			t.N[i].Args[j] = place[a]
		}
	}
	return t
}
