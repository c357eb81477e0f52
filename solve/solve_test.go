package solve_test

import (
	"math/rand"
	"slices"
	"testing"

	"trefoil/api"
	"trefoil/graph"
	"trefoil/load"
	"trefoil/sample"
	"trefoil/solve"
)

var con, obj, gr, va, equal = sample.Con, sample.Obj, sample.Graph, sample.Var(), sample.Equal

// P8.1: graphs, node by node.
func TestUnify(t *testing.T) {
	for i, c := range []struct {
		g, h  api.Graph
		pairs [][2]int
		of    []int
	}{
		{gr(0, va), gr(0, va), nil, []int{0}},
		{gr(1, va, con("int")), gr(0, con("int"), con("int")), [][2]int{{1, 0}}, []int{0, 0}},
		{gr(2, va, va, con("->", 0, 1), con("int"), con("->", 3, 0)), gr(2, con("int"), con("int"), con("->", 0, 0), con("int"), con("->", 0, 0)), [][2]int{{4, 2}}, []int{0, 0, 2, 0, 2}},
		{gr(0, va, con("->", 2, 0), va), gr(0, con("->", 2, 0), con("->", 2, 0), va), [][2]int{{0, 1}}, []int{0, 0, 2}},
		{gr(3, va, obj(true, "m", 0), obj(true, "n", 4), va, con("int")), gr(1, va, obj(true, "mn", 0, 4), obj(true, "mn", 0, 4), obj(true, "mn", 0, 4), con("int")), [][2]int{{3, 2}, {1, 3}}, []int{0, 1, 1, 1, 4}},
		{gr(0, obj(false, "mn", 2, 2), obj(true, "m", 3), va, con("int")), gr(0, obj(false, "mn", 2, 2), obj(false, "mn", 2, 2), con("int"), con("int")), [][2]int{{0, 1}}, []int{0, 0, 2, 2}},
		{gr(0, obj(false, "m", 0), obj(true, ""), obj(true, "m", 1)), gr(0, obj(false, "m", 0), obj(false, "m", 0), obj(false, "m", 0)), [][2]int{{0, 2}}, []int{0, 0, 0}},
		{gr(0, con("*", 2, 3), con("*", 4, 5), va, va, con("int"), va), gr(0, con("*", 2, 3), con("*", 2, 3), con("int"), va, con("int"), va), [][2]int{{0, 1}, {0, 0}, {1, 0}}, []int{0, 0, 2, 3, 2, 3}},
	} {
		h, of, e := solve.Unify(c.g, c.pairs)
		if e != api.OK || !equal(h, c.h) || !slices.Equal(of, c.of) {
			t.Error(i, h, of, e)
		}
	}
}

// P8.1: what can't be one, and wrong arguments.
func TestUnifyFaults(t *testing.T) {
	for i, c := range []struct {
		g     api.Graph
		pairs [][2]int
		want  api.Errno
	}{
		{api.Graph{}, [][2]int{{0, 0}}, api.ErrArg}, {api.Graph{N: make([]api.Node, api.MaxNodes+1)}, nil, api.ErrLong}, {gr(0, va), [][2]int{{0, 1}}, api.ErrArg}, {gr(0, va), [][2]int{{-1, 0}}, api.ErrArg}, {gr(0, con("int"), con("bool")), [][2]int{{0, 1}, {0, 2}}, api.ErrArg},
		{gr(0, con("int"), con("bool")), [][2]int{{0, 1}}, api.ErrType}, {gr(0, con("->", 0, 0), con("*", 0, 0)), [][2]int{{0, 1}}, api.ErrType}, {gr(0, con("int"), obj(true, "")), [][2]int{{0, 1}}, api.ErrType},
		{gr(0, obj(false, ""), obj(true, "m", 0)), [][2]int{{0, 1}}, api.ErrType}, {gr(0, obj(false, "m", 0), obj(false, "mn", 0, 0)), [][2]int{{0, 1}}, api.ErrType}, {gr(0, obj(false, "m", 0), obj(false, "n", 0)), [][2]int{{0, 1}}, api.ErrType},
		{gr(0, obj(true, "m", 2), obj(true, "m", 3), con("int"), con("bool")), [][2]int{{0, 1}}, api.ErrType}, {gr(0, obj(false, "mn", 0, 0), obj(true, "m", 0), obj(true, "o", 0)), [][2]int{{1, 2}, {0, 1}}, api.ErrType},
		{gr(0, obj(false, "mn", 0, 0), obj(true, "m", 0), obj(true, "o", 0)), [][2]int{{0, 1}, {1, 2}}, api.ErrType}, {gr(0, con("int"), con("bool"), va), [][2]int{{0, 2}, {2, 1}}, api.ErrType},
	} {
		h, of, e := solve.Unify(c.g, c.pairs)
		if e != c.want || of != nil || !equal(h, api.Graph{}) {
			t.Error(i, h, of, e)
		}
	}
}

// P8.2: types made one.
func TestMeet(t *testing.T) {
	for _, c := range [][3]string{
		{"int -> 'a", "'b -> 'b", "int -> int"}, {"< m : int ; .. >", "< n : int >", ""}, {"< m : int ; .. >", "< n : 'a ; .. > ", "< m : int ; n : 'a ; .. >"}, {"< m : int ; .. >", "< m : 'a ; n : 'a >", "< m : int ; n : int >"},
		{"'a", "'a", "'a"}, {"'a -> 'b", "'b -> 'a", "'a -> 'b"}, {"'a -> 'a", "int -> bool", ""}, {"'a -> 'b as 'a", "('x -> int) -> int", "'a -> int as 'a"}, {"'a * ('a -> int)", "'b * 'b", "('a -> int as 'a) * 'a"}, {"int", "int", "int"}, {"int", "< >", ""}, {"< .. >", "unit", ""},
	} {
		g, _ := load.Read(c[0])
		h, _ := load.Read(c[1])
		u, e := solve.Meet(g, h)
		if c[2] == "" {
			if e != api.ErrType || !equal(u, api.Graph{}) {
				t.Error(c, u, e)
			}
			continue
		}
		want, _ := load.Read(c[2])
		if e != api.OK || u.Root != 0 || !equal(u, graph.Trim(u)) || !like(u, want) {
			t.Error(c, u, e)
		}
	}
	ok := gr(0, va)
	many := api.Graph{N: slices.Repeat([]api.Node{va}, api.MaxNodes)}
	more := api.Graph{N: slices.Repeat([]api.Node{va}, api.MaxNodes+1)}
	for i, c := range []struct {
		g, h api.Graph
		want api.Errno
	}{{api.Graph{}, more, api.ErrArg}, {ok, api.Graph{}, api.ErrArg}, {more, api.Graph{}, api.ErrLong}, {many, more, api.ErrLong}, {many, api.Graph{}, api.ErrArg}, {many, ok, api.ErrLong}, {ok, many, api.ErrLong}, {api.Graph{N: many.N[1:]}, ok, api.OK}} {
		if _, e := solve.Meet(c.g, c.h); e != c.want {
			t.Error(i, e)
		}
	}
}

// like says whether two graphs unfold alike: the tests' types have no free nodes that tell it otherwise.
func like(g, h api.Graph) bool {
	u, of, e := solve.Unify(g, nil)
	if e != api.OK || len(of) != len(u.N) {
		return false
	}
	seen := map[[2]int]int{}
	var match func(a, b int) bool
	match = func(a, b int) bool {
		x, y := g.N[a], h.N[b]
		if seen[[2]int{a, b}]++; seen[[2]int{a, b}] > 1 {
			return true
		}
		if x.Kind != y.Kind || x.Name != y.Name || x.Open != y.Open || !slices.Equal(x.Labels, y.Labels) {
			return false
		}
		for i := range x.Args {
			if !match(x.Args[i], y.Args[i]) {
				return false
			}
		}
		return true
	}
	return match(g.Root, h.Root)
}

func random(r *rand.Rand, n int) api.Graph {
	g := api.Graph{Root: r.Intn(n)}
	a := func() int { return r.Intn(n) }
	for range n {
		g.N = append(g.N, []api.Node{va, va, va, con("int"), con("->", a(), a()), con("->", a(), a()), con("*", a(), a()), obj(false, "m", a()), obj(true, "m", a()), obj(true, "n", a()), obj(false, "mn", a(), a()), obj(true, "")}[r.Intn(12)])
	}
	return g
}

// P8.3: the order of pairs, made one once more, a type with itself, each class's node; P8.1: it holds, and is the least that does.
func TestLaws(t *testing.T) {
	r := rand.New(rand.NewSource(5))
	fine := 0
	for range 20000 {
		n := 2 + r.Intn(6)
		g := random(r, n)
		if m, e := solve.Meet(g, g); e != api.OK || !graph.Same(m, g) {
			t.Fatal(g, m)
		}
		var pairs [][2]int
		for range r.Intn(3) {
			pairs = append(pairs, [2]int{r.Intn(n), r.Intn(n)})
		}
		h, of, e := solve.Unify(g, pairs)
		back := slices.Clone(pairs)
		slices.Reverse(back)
		for i := range back {
			back[i][0], back[i][1] = back[i][1], back[i][0]
		}
		h2, of2, e2 := solve.Unify(g, back)
		if e != e2 || !equal(h, h2) || !slices.Equal(of, of2) {
			t.Fatal(g, pairs)
		}
		want, holds := slow(g, pairs)
		if holds != (e == api.OK) {
			t.Fatal(g, pairs, e)
		}
		if e != api.OK {
			continue
		}
		fine++
		h3, _, e3 := solve.Unify(h, pairs)
		if e3 != api.OK || !equal(h3, h) || !slices.Equal(of, want) || h.Root != of[g.Root] {
			t.Fatal(g, pairs, h, of, want)
		}
		for i, c := range of {
			if !equal(gr(0, h.N[i]), gr(0, h.N[c])) || of[c] != c || c > i {
				t.Fatal(g, pairs, h, of)
			}
		}
	}
	if fine < 3000 {
		t.Error(fine)
	}
}

// slow finds the classes by going over all nodes until nothing changes.
func slow(g api.Graph, pairs [][2]int) ([]int, bool) {
	of := make([]int, len(g.N))
	for i := range of {
		of[i] = i
	}
	one := func(a, b int) bool {
		x, y := min(of[a], of[b]), max(of[a], of[b])
		for i := range of {
			if of[i] == y {
				of[i] = x
			}
		}
		return x != y
	}
	for _, p := range pairs {
		one(p[0], p[1])
	}
	for changed := true; changed; {
		changed = false
		for i, a := range g.N {
			for j, b := range g.N {
				if of[i] != of[j] || a.Kind == api.NVar || b.Kind == api.NVar {
					continue
				}
				if a.Kind != b.Kind || a.Name != b.Name {
					return nil, false
				}
				for k := range a.Args {
					for l := range b.Args {
						if a.Kind == api.NCon && k == l || a.Kind == api.NObj && a.Labels[k] == b.Labels[l] {
							changed = one(a.Args[k], b.Args[l]) || changed
						}
					}
				}
			}
		}
	}
	for i, a := range g.N {
		for j, b := range g.N {
			for _, s := range b.Labels {
				if of[i] == of[j] && a.Kind == api.NObj && !a.Open && !slices.Contains(a.Labels, s) {
					return nil, false
				}
			}
		}
	}
	return of, true
}

// P8.1: great graphs, and what is handed in stays.
func TestGreat(t *testing.T) {
	n := 300000
	var g api.Graph
	for i := range n {
		g.N = append(g.N, con("->", (i+1)%n, (i*7)%n))
	}
	h, of, e := solve.Unify(g, [][2]int{{0, 1}})
	if e != api.OK || of[n-1] != 0 || len(h.N) != n {
		t.Error(e)
	}
	g = gr(0, obj(true, "ab", 0, 0), obj(true, "c", 1))
	h, _, _ = solve.Unify(g, [][2]int{{0, 1}})
	h.N[0].Labels[0], h.N[0].Args[0], h.N[1].Args[1] = "z", 9, 9
	if g.N[0].Labels[0] != "a" || g.N[0].Args[0] != 0 || h.N[1].Labels[0] != "a" || h.N[0].Args[1] != 0 {
		t.Error("shared")
	}
}
