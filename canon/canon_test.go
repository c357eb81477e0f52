package canon_test

import (
	"math/rand"
	"slices"
	"testing"

	"trefoil/api"
	"trefoil/canon"
	"trefoil/graph"
	"trefoil/load"
	"trefoil/sample"
)

var con, obj, gr, va, equal = sample.Con, sample.Obj, sample.Graph, sample.Var(), sample.Equal

// P9.1: classes of all nodes, reached or not.
func TestClasses(t *testing.T) {
	for i, c := range []struct {
		g    api.Graph
		want []int
	}{
		{gr(0, con("->", 1, 2), con("int"), con("->", 3, 0), con("int")), []int{0, 1, 0, 1}}, {gr(0, va, va), []int{0, 1}}, {gr(0, con("int"), con("bool"), con("int")), []int{0, 1, 0}},
		{gr(0, obj(true, ""), obj(true, ""), obj(false, ""), obj(false, "")), []int{0, 1, 2, 2}}, {gr(0, con("->", 2, 2), con("->", 3, 3), va, va), []int{0, 1, 2, 3}}, {gr(0, con("->", 2, 2), con("->", 2, 2), va), []int{0, 0, 2}},
		{gr(3, obj(false, "m", 1), obj(false, "m", 2), obj(false, "m", 0), con("*", 0, 2)), []int{0, 0, 0, 3}}, {gr(0, con("->", 0, 0), con("*", 1, 1), con("->", 0, 2)), []int{0, 1, 0}}, {gr(0, obj(false, "ab", 0, 0), obj(false, "ac", 0, 0)), []int{0, 1}},
		{gr(0, obj(true, "m", 0), obj(true, "m", 1), obj(false, "m", 0), obj(false, "m", 0)), []int{0, 1, 2, 2}}, {gr(0, con("*", 1, 0), con("int"), con("*", 0, 1), con("*", 1, 2)), []int{0, 1, 2, 3}},
	} {
		if got := canon.Classes(c.g); !slices.Equal(got, c.want) {
			t.Error(i, got)
		}
	}
}

// P9.2: keys.
func TestKey(t *testing.T) {
	for text, want := range map[string]string{
		"int -> int -> 'a as 'a": "-> 1 0;int;", "int -> 'a as 'a": "-> 1 0;int;", "'a": "v;", "int": "int;", "< >": "<;", "< .. >": "<..;", "< m : 'a > as 'a": "< m 0;", "< m : int ; .. > -> 'a": "-> 1 3;<.. m 2;int;v;",
		"< m : int ; n : int >": "< m n 1 1;int;", "< m : (< m : < m : 'a > > as 'a) >": "< m 0;", "< m : 'a ; .. > as 'a": "<.. m 0;", "< > * < .. >": "* 1 2;<;<..;", "< m1 : int ; m2 : < _1 : 'a ; .. > >": "< m1 m2 1 2;int;<.. _1 3;v;",
		"(int -> int) * (int -> int)": "* 1 1;-> 2 2;int;", "'a * 'b * 'a": "* 1 2;v;* 3 1;v;",
	} {
		g, e := load.Read(text)
		if got := canon.Key(g); got != want || e != api.OK {
			t.Errorf("%q: %q %d", text, got, e)
		}
	}
}

// P9.1, P9.2: of what may not be.
func TestBad(t *testing.T) {
	for i, g := range []api.Graph{{}, gr(1, va), gr(0, con("->", 0)), {N: make([]api.Node, api.MaxNodes+1)}} {
		if canon.Classes(g) != nil || !equal(canon.Least(g), api.Graph{}) || canon.Key(g) != "" {
			t.Error(i)
		}
	}
}

// P9.2, P9.3: labels are told apart, wherever one ends and the next begins.
func TestLabels(t *testing.T) {
	keys := map[string]int{}
	for i, l := range cuts {
		for j, open := range []bool{false, true} {
			key := canon.Key(gr(0, long(open, l, 1), con("int")))
			if was, ok := keys[key]; ok {
				t.Errorf("%v %t: %q, as %v", l, open, key, cuts[was/2])
			}
			keys[key] = 2*i + j
		}
	}
}

// cuts are labels that are the same bytes, one behind the other.
var cuts = [][]string{{"abcd"}, {"a", "bcd"}, {"ab", "cd"}, {"abc", "d"}, {"a", "b", "cd"}, {"a", "bc", "d"}, {"ab", "c", "d"}, {"a", "b", "c", "d"}}

// long is an object of labels of any length, all of one node.
func long(open bool, labels []string, arg int) api.Node {
	return api.Node{Kind: api.NObj, Open: open, Labels: labels, Args: slices.Repeat([]int{arg}, len(labels))}
}

func random(r *rand.Rand, n int) api.Graph {
	g := api.Graph{Root: r.Intn(n)}
	a := func() int { return r.Intn(n) }
	for range n {
		g.N = append(g.N, []api.Node{va, con("int"), con("->", a(), a()), con("->", a(), a()), con("*", a(), a()), obj(false, "m", a()), obj(r.Intn(2) == 0, "m", a()), obj(false, "mn", a(), a()), obj(r.Intn(2) == 0, ""), long(r.Intn(2) == 0, cuts[r.Intn(len(cuts))], a())}[r.Intn(10)])
	}
	return g
}

// slow finds what is alike by taking away, step by step, what isn't.
func slow(g api.Graph) []int {
	n := len(g.N)
	apart := make([]bool, n*n)
	for changed := true; changed; {
		changed = false
		for i, x := range g.N {
			for j, y := range g.N {
				if i == j || apart[i*n+j] {
					continue
				}
				free := x.Kind == api.NVar || y.Kind == api.NVar || x.Open || y.Open
				bad := free || x.Kind != y.Kind || x.Name != y.Name || !slices.Equal(x.Labels, y.Labels)
				for k := 0; !bad && k < len(x.Args); k++ {
					bad = apart[x.Args[k]*n+y.Args[k]]
				}
				apart[i*n+j] = bad
				changed = changed || bad
			}
		}
	}
	is := make([]int, n)
	for i := range is {
		for apart[i*n+is[i]] {
			is[i]++
		}
	}
	return is
}

// P9.1, P9.3: the least graphs are the same just if the types are; a least one is its own; it has no more nodes.
func TestLaws(t *testing.T) {
	r := rand.New(rand.NewSource(6))
	same := 0
	for range 20000 {
		g, h := random(r, 1+r.Intn(8)), random(r, 1+r.Intn(4))
		if got := canon.Classes(g); !slices.Equal(got, slow(g)) {
			t.Fatal(g, got)
		}
		l, m := canon.Least(g), canon.Least(h)
		if graph.Check(l) != api.OK || !graph.Same(l, g) || !equal(canon.Least(l), l) || len(l.N) > len(graph.Reach(g)) || !equal(graph.Trim(l), l) {
			t.Fatal(g, l)
		}
		if graph.Same(g, h) != equal(l, m) || equal(l, m) != (canon.Key(g) == canon.Key(h)) {
			t.Fatal(g, h)
		}
		if equal(l, m) {
			same++
		}
	}
	if same < 300 {
		t.Error(same)
	}
}

// P9.1: great graphs are done soon, and what is handed in stays.
func TestGreat(t *testing.T) {
	n := api.MaxNodes - 2
	line := api.Graph{}
	for i := range n {
		line.N = append(line.N, con("->", n+1, i+1))
	}
	line.N = append(line.N, con("bool"), con("int"))
	if l := canon.Least(line); len(l.N) != n+2 {
		t.Error("line", len(l.N))
	}
	for i := range n {
		line.N[i].Args[1] = (i + 1) % n
	}
	if canon.Key(line) != "-> 1 0;int;" {
		t.Error("ring")
	}
	g := gr(0, obj(true, "a", 0))
	l := canon.Least(g)
	l.N[0].Labels[0], l.N[0].Args[0] = "z", 3
	if g.N[0].Labels[0] != "a" || g.N[0].Args[0] != 0 {
		t.Error("shared")
	}
}
