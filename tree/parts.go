package tree

import (
	"iter"

	"trefoil/api"
)

// part is an expression, or else a member, of a greater one, and how deep it stands there.
type part struct {
	e     *api.Expr
	m     *api.Member
	depth int
}

// parts are all expressions and members of e, itself the first one, and how deep each stands.
func parts(e *api.Expr) iter.Seq2[part, int] {
	return func(yield func(part, int) bool) {
		todo := []part{{e: e, depth: 1}}
		for len(todo) > 0 {
			x := todo[len(todo)-1]
			todo = todo[:len(todo)-1]
			if !yield(x, x.depth) {
				return
			}
			todo = below(todo, x)
		}
	}
}

// below puts behind a list what a part is made of.
func below(todo []part, x part) []part {
	if x.m != nil {
		return exprs(todo, x.m.Args, x.depth+1)
	}
	for i := range x.e.Members {
		todo = append(todo, part{m: &x.e.Members[i], depth: x.depth + 1})
	}
	return exprs(todo, x.e.Args, x.depth+1)
}

func exprs(todo []part, l []api.Expr, depth int) []part {
	for i := range l {
		todo = append(todo, part{e: &l[i], depth: depth})
	}
	return todo
}
