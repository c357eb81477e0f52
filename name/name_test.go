package name_test

import (
	"math/rand"
	"slices"
	"strings"
	"testing"

	"trefoil/api"
	"trefoil/canon"
	"trefoil/graph"
	"trefoil/load"
	"trefoil/name"
	"trefoil/sample"
	"trefoil/tree"
)

var con, obj, gr, va = sample.Con, sample.Obj, sample.Graph, sample.Var()

// P10.1: names.
func TestName(t *testing.T) {
	for n, want := range map[int]string{-1: "", -1 << 63: "", 0: "a", 1: "b", 25: "z", 26: "a1", 27: "b1", 51: "z1", 52: "a2", 259: "z9", 260: "a10", 1<<63 - 1: "h354745078340568300"} {
		if got := name.Name(n); got != want {
			t.Error(n, got)
		}
	}
}

// P10.2: texts.
func TestPut(t *testing.T) {
	for text, want := range map[string]string{
		"int": "int", "'x": "'a", "'x -> 'y -> 'x": "'a -> 'b -> 'a", "(int -> int) * (int -> int)": "(int -> int as 'a) * 'a", "'x -> 'y as 'x": "'a -> 'b as 'a", "'y -> 'x as 'x": "'b -> 'a as 'a",
		"< me : 'z > as 'z": "< me : 'a > as 'a", "< > * < >": "< > * < >", "(< .. > as 'x) * 'x": "(< .. > as 'a) * 'a", "< .. > * < .. >": "< .. > * < .. >", "< m : < .. > >": "< m : < .. > >",
		"< m : 'x ; n : (int * int as 'x) >": "< m : (int * int as 'a) ; n : 'a >", "int -> int -> 'x as 'x": "int -> 'a as 'a", "(< n : 'b ; m : 'a ; .. > as 'c) -> 'c": "(< m : 'b ; n : 'c ; .. > as 'a) -> 'a",
		"int * int * int": "int * int * int", "((int -> 'b) as 'x) -> bool -> 'x": "(int -> 'b as 'a) -> bool -> 'a",
	} {
		g, e := load.Read(text)
		got, e2 := name.Put(g)
		if e != api.OK || e2 != api.OK || got != want {
			t.Errorf("%q: %q %d %d", text, got, e, e2)
		}
	}
	many := gr(0)
	for i := range 30 {
		many.N = append(many.N, con("*", 2*i+1, 2*i+2), va)
	}
	many.N = append(many.N, con("int"))
	s, e := name.Put(many)
	if e != api.OK || !strings.HasPrefix(s, "'a * 'b * ") || !strings.HasSuffix(s, "'z * 'a1 * 'b1 * 'c1 * 'd1 * int") {
		t.Error(s, e)
	}
}

// P10.1: what can't be told.
func TestFaults(t *testing.T) {
	line := func(n int) api.Graph {
		g := gr(0)
		for i := range n - 1 {
			g.N = append(g.N, obj(false, "m", i+1))
		}
		g.N = append(g.N, va)
		return g
	}
	named := func(n int) api.Graph { // its last node but one is shared, and so one level deeper
		g := line(n)
		g.N[n-2] = obj(false, "mn", n-1, n-2)
		return g
	}
	for i, c := range []struct {
		g    api.Graph
		want api.Errno
	}{
		{api.Graph{}, api.ErrArg}, {gr(1, va), api.ErrArg}, {api.Graph{N: make([]api.Node, api.MaxNodes+1)}, api.ErrLong}, {line(api.MaxDeep), api.OK}, {line(api.MaxDeep + 1), api.ErrDeep}, {line(1000000), api.ErrDeep},
		{named(api.MaxDeep - 1), api.OK}, {named(api.MaxDeep), api.ErrDeep}, {named(api.MaxDeep + 1), api.ErrDeep}, {named(api.MaxDeep + 2), api.ErrDeep},
	} {
		x, e := name.Type(c.g)
		s, e2 := name.Put(c.g)
		if e != c.want || e2 != c.want || e != api.OK && (s != "" || !tree.SameType(x, api.Type{})) || e == api.OK && tree.CheckType(x) != api.OK {
			t.Error(i, e, e2)
		}
	}
}

func random(r *rand.Rand, n int) api.Graph {
	g := api.Graph{Root: r.Intn(n)}
	a := func() int { return r.Intn(n) }
	for range n {
		g.N = append(g.N, []api.Node{va, con("int"), con("->", a(), a()), con("->", a(), a()), con("*", a(), a()), obj(false, "m", a()), obj(r.Intn(2) == 0, "m", a()), obj(false, "mn", a(), a()), obj(r.Intn(2) == 0, "")}[r.Intn(9)])
	}
	return g
}

// count is how many nodes of a graph have Args, or are open, and how many parts of a type do.
func count(g api.Graph, t api.Type) (int, int) {
	nodes, parts := 0, 0
	for _, n := range g.N {
		if len(n.Args) > 0 || n.Open {
			nodes++
		}
	}
	todo := []api.Type{t}
	for len(todo) > 0 {
		x := todo[0]
		todo = append(todo[1:], x.Args...)
		if x.Kind != api.TAs && (len(x.Args) > 0 || x.Open) {
			parts++
		}
	}
	return nodes, parts
}

// P10.3: what is told is read as that type; two are the same just if their texts are; each node stands once.
func TestLaws(t *testing.T) {
	r := rand.New(rand.NewSource(7))
	same := 0
	for range 20000 {
		g, h := random(r, 1+r.Intn(9)), random(r, 1+r.Intn(4))
		s, e := name.Put(g)
		u, _ := name.Put(h)
		got, e2 := load.Read(s)
		if e != api.OK || e2 != api.OK || !graph.Same(g, got) || (s == u) != graph.Same(g, h) {
			t.Fatal(g, s, e, e2)
		}
		x, _ := name.Type(g)
		if n, m := count(canon.Least(g), x); n != m {
			t.Fatal(g, s)
		}
		if s == u {
			same++
		}
		for i, l := range load.Names(x) {
			if !slices.Contains(strings.Fields("a b c d e f g h i"), l) || i > 9 {
				t.Fatal(s)
			}
		}
	}
	if same < 300 {
		t.Error(same)
	}
}
