package graph_test

import (
	"math/rand"
	"slices"
	"strings"
	"testing"

	"trefoil/api"
	"trefoil/graph"
	"trefoil/sample"
)

var con, obj, gr, va, equal = sample.Con, sample.Obj, sample.Graph, sample.Var(), sample.Equal

// P6.1: what may be, and what of it is reached, in order, and free.
func TestGood(t *testing.T) {
	for i, c := range []struct {
		g           api.Graph
		reach, free []int
	}{
		{gr(0, va), []int{0}, []int{0}}, {gr(1, va, con("int")), []int{1}, nil}, {gr(0, con("->", 1, 0), va), []int{0, 1}, []int{1}},
		{gr(2, con("int"), va, con("*", 4, 3), obj(true, "", []int{}...), con("->", 1, 0)), []int{2, 4, 1, 0, 3}, []int{1, 3}},
		{gr(0, obj(false, "ab", 0, 1), obj(true, "_z", 0, 2), va), []int{0, 1, 2}, []int{1, 2}}, {gr(0, obj(true, "ab", 1, 1), con("unit")), []int{0, 1}, []int{0}},
		{gr(3, con("bool"), con("string"), con("*", 1, 3), con("->", 2, 0)), []int{3, 2, 1, 0}, nil}, {gr(0, con("*", 1, 2), con("*", 3, 4), con("*", 4, 3), va, va), []int{0, 1, 3, 4, 2}, []int{3, 4}},
	} {
		if e := graph.Check(c.g); e != api.OK || !slices.Equal(graph.Reach(c.g), c.reach) || !slices.Equal(graph.Free(c.g), c.free) {
			t.Error(i, e, graph.Reach(c.g), graph.Free(c.g))
		}
	}
}

// P6.1: what may not be.
func TestBad(t *testing.T) {
	ok := gr(0, va)
	for i, g := range []api.Graph{
		{}, gr(1, va), gr(-1, va), gr(0, api.Node{}), gr(0, va, api.Node{Kind: 4}), gr(0, va, con("float")), gr(0, va, con("->", 0)), gr(0, va, con("->", 0, 2)), gr(0, va, con("*", -1, 0)),
		gr(0, va, con("*", 0, 0, 0)), gr(0, va, con("int", 0)), gr(0, con("")), gr(0, va, api.Node{Kind: api.NVar, Name: "a"}), gr(0, va, api.Node{Kind: api.NVar, Open: true}), gr(0, api.Node{Kind: api.NVar, Args: []int{0}}),
		gr(0, api.Node{Kind: api.NVar, Labels: []string{"a"}}), gr(0, api.Node{Kind: api.NCon, Name: "int", Open: true}), gr(0, api.Node{Kind: api.NCon, Name: "*", Args: []int{0, 0}, Labels: []string{"a", "b"}}),
		gr(0, obj(true, "a")), gr(0, obj(true, "", 0)), gr(0, obj(true, "aa", 0, 0)), gr(0, obj(true, "ba", 0, 0)), gr(0, obj(true, "A", 0)), gr(0, obj(false, "a", 1)), gr(0, va, api.Node{Kind: api.NObj, Name: "x"}),
		gr(0, api.Node{Kind: api.NObj, Labels: []string{"let"}, Args: []int{0}}), gr(0, api.Node{Kind: api.NObj, Labels: []string{strings.Repeat("a", 101)}, Args: []int{0}}), gr(1<<62, va),
	} {
		if graph.Check(g) != api.ErrArg || graph.Reach(g) != nil || graph.Free(g) != nil || !equal(graph.Trim(g), api.Graph{}) || graph.Same(g, g) || graph.Same(g, ok) || graph.Same(ok, g) {
			t.Error(i, graph.Check(g))
		}
	}
	many := api.Graph{N: make([]api.Node, api.MaxNodes+1)}
	if graph.Check(many) != api.ErrLong || graph.Reach(many) != nil || !equal(graph.Trim(many), api.Graph{}) || graph.Same(many, many) {
		t.Error("too many")
	}
	many.N = many.N[1:]
	if graph.Check(many) != api.ErrArg {
		t.Error("many, of no kind")
	}
}

// P6.2: what is the same type.
func TestSame(t *testing.T) {
	loop := gr(0, con("->", 1, 0), va)
	for i, c := range []struct {
		g, h api.Graph
		want bool
	}{
		{loop, gr(0, con("->", 1, 2), va, con("->", 1, 0)), true}, {loop, gr(0, con("->", 1, 2), va, con("->", 3, 0), va), false}, {gr(0, va), gr(1, con("int"), va), true},
		{gr(0, con("*", 1, 1), va), gr(0, con("*", 1, 2), va, va), false}, {gr(0, con("*", 1, 2), va, va), gr(0, con("*", 2, 1), va, va), true}, {gr(0, con("*", 1, 2), con("int"), con("int")), gr(0, con("*", 1, 1), con("int")), true},
		{gr(0, con("*", 1, 2), obj(true, ""), obj(true, "")), gr(0, con("*", 1, 1), obj(true, "")), false}, {gr(0, con("*", 1, 2), obj(false, ""), obj(false, "")), gr(0, con("*", 1, 1), obj(false, "")), true},
		{gr(0, con("int")), gr(0, con("bool")), false}, {gr(0, va), gr(0, con("int")), false}, {gr(0, va), gr(0, obj(true, "")), false}, {gr(0, obj(true, "")), gr(0, obj(false, "")), false},
		{gr(0, obj(false, "m", 0)), gr(0, obj(false, "m", 1), obj(false, "m", 0)), true}, {gr(0, obj(true, "m", 0)), gr(0, obj(true, "m", 1), obj(true, "m", 0)), false}, {gr(0, obj(false, "m", 0)), gr(0, obj(false, "n", 0)), false},
		{gr(0, con("->", 0, 0)), gr(0, con("->", 1, 2), con("->", 2, 1), con("->", 0, 1)), true}, {gr(0, con("->", 0, 0)), gr(0, con("*", 0, 0)), false}, {gr(0, obj(false, "ab", 0, 0)), gr(0, obj(false, "a", 0)), false},
	} {
		if graph.Same(c.g, c.h) != c.want || graph.Same(c.h, c.g) != c.want || !graph.Same(c.g, c.g) {
			t.Error(i)
		}
	}
}

// random is a graph of so many nodes, all of which may be free if asked.
func random(r *rand.Rand, n int) api.Graph {
	g := api.Graph{Root: r.Intn(n)}
	a := func() int { return r.Intn(n) }
	for range n {
		g.N = append(g.N, []api.Node{va, con("int"), con("bool"), con("->", a(), a()), con("*", a(), a()), con("->", a(), a()), obj(false, "m", a()), obj(true, "m", a()), obj(false, "mn", a(), a()), obj(r.Intn(2) == 0, "")}[r.Intn(10)])
	}
	return g
}

type pair struct{ a, b int }

// slow says whether two graphs are the same by all pairs that are matched.
func slow(g, h api.Graph) bool {
	seen := map[pair]bool{}
	to, from := map[int]int{}, map[int]int{}
	var match func(a, b int) bool
	match = func(a, b int) bool {
		x, y := g.N[a], h.N[b]
		if seen[pair{a, b}] {
			return true
		}
		seen[pair{a, b}] = true
		if x.Kind != y.Kind || x.Name != y.Name || x.Open != y.Open || !slices.Equal(x.Labels, y.Labels) {
			return false
		}
		if x.Kind == api.NVar || x.Open {
			c, was := to[a]
			d, came := from[b]
			if was && c != b || came && d != a {
				return false
			}
			to[a], from[b] = b, a
		}
		for i := range x.Args {
			if !match(x.Args[i], y.Args[i]) {
				return false
			}
		}
		return true
	}
	return match(g.Root, h.Root)
}

// P6.2, P6.3: Trim is the same type, and itself again; the same goes both ways, and on.
func TestTrim(t *testing.T) {
	r := rand.New(rand.NewSource(4))
	same := 0
	for range 20000 {
		g, h := random(r, 1+r.Intn(6)), random(r, 1+r.Intn(4))
		was := equalCopy(g)
		s := graph.Trim(g)
		if graph.Check(s) != api.OK || s.Root != 0 || !slices.Equal(graph.Reach(s), upTo(len(s.N))) || !graph.Same(g, s) || !equal(graph.Trim(s), s) || !equal(g, was) {
			t.Fatal(g, s)
		}
		for i, n := range graph.Reach(g) {
			if s.N[i].Kind != g.N[n].Kind || s.N[i].Name != g.N[n].Name {
				t.Fatal(g, s)
			}
		}
		if graph.Same(g, h) != slow(g, h) || graph.Same(g, h) != graph.Same(h, g) || graph.Same(s, h) != graph.Same(g, h) {
			t.Fatal(g, h)
		}
		if graph.Same(g, h) {
			same++
		}
	}
	if same < 500 {
		t.Error(same)
	}
}

func upTo(n int) []int {
	l := make([]int, n)
	for i := range l {
		l[i] = i
	}
	return l
}

func equalCopy(g api.Graph) api.Graph {
	h := api.Graph{Root: g.Root, N: slices.Clone(g.N)}
	for i := range h.N {
		h.N[i].Args = slices.Clone(h.N[i].Args)
		h.N[i].Labels = slices.Clone(h.N[i].Labels)
	}
	return h
}

// ring is a type that goes round by so many nodes.
func ring(n int) api.Graph {
	g := api.Graph{}
	for i := range n {
		g.N = append(g.N, con("->", (i+1)%n, n))
	}
	g.N = append(g.N, con("int"))
	return g
}

// P6.2: great graphs; an answer is new memory.
func TestGreat(t *testing.T) {
	g := ring(300007)
	if !graph.Same(g, ring(299993)) || !graph.Same(ring(api.MaxNodes-1), ring(1)) || len(graph.Trim(g).N) != 300008 {
		t.Error("rings")
	}
	s := graph.Trim(gr(0, obj(true, "ab", 0, 0)))
	s.N[0].Args[0], s.N[0].Labels[0] = 7, "z"
	h := gr(0, obj(true, "ab", 0, 0))
	u := graph.Trim(h)
	u.N[0].Args[0], u.N[0].Labels[0] = 7, "z"
	if h.N[0].Args[0] != 0 || h.N[0].Labels[0] != "a" {
		t.Error("shared")
	}
}
