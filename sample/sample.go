// Package sample makes up graphs for tests, and holds them against each other.
package sample

import (
	"slices"

	"trefoil/api"
)

// Var is a variable's node.
func Var() api.Node { return api.Node{Kind: api.NVar} }

// Con is a constructor's node.
func Con(name string, args ...int) api.Node {
	return api.Node{Kind: api.NCon, Name: name, Args: args}
}

// Obj is an object's node, whose labels are of one byte each.
func Obj(open bool, labels string, args ...int) api.Node {
	n := api.Node{Kind: api.NObj, Open: open, Args: args}
	for i := range labels {
		n.Labels = append(n.Labels, labels[i:i+1])
	}
	return n
}

// Graph is a graph of nodes.
func Graph(root int, nodes ...api.Node) api.Graph { return api.Graph{N: nodes, Root: root} }

// Equal says whether two graphs are the same node by node.
func Equal(g, h api.Graph) bool {
	return g.Root == h.Root && slices.EqualFunc(g.N, h.N, equal)
}

func equal(a, b api.Node) bool {
	return a.Kind == b.Kind && a.Name == b.Name && a.Open == b.Open && slices.Equal(a.Args, b.Args) && slices.Equal(a.Labels, b.Labels)
}
