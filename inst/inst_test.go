package inst_test

import (
	"math/rand"
	"slices"
	"testing"

	"trefoil/api"
	"trefoil/canon"
	"trefoil/graph"
	"trefoil/inst"
	"trefoil/load"
	"trefoil/sample"
	"trefoil/solve"
)

var con, obj, gr, va = sample.Con, sample.Obj, sample.Graph, sample.Var()

func read(t *testing.T, s string) api.Graph {
	g, e := load.Read(s)
	if e != api.OK {
		t.Fatal(s, e)
	}
	return g
}

// P11.1: instances.
func TestIs(t *testing.T) {
	for _, c := range []struct {
		g, h string
		is   bool
		back bool
	}{
		{"'a -> 'a", "int -> int", true, false}, {"'a -> 'a", "int -> bool", false, false}, {"'a -> 'b", "'a -> 'a", true, false}, {"'a", "'b", true, true}, {"'a", "int", true, false}, {"int", "bool", false, false},
		{"< m : 'a ; .. >", "< m : int ; n : int >", true, false}, {"< m : 'a ; .. >", "< m : int ; n : int ; .. >", true, false}, {"< m : 'a ; .. >", "< n : int >", false, false}, {"< m : 'a >", "< m : int ; n : int >", false, false},
		{"< m : 'a >", "< m : int ; .. >", false, false}, {"< m : 'a ; .. >", "< m : 'a >", true, false}, {"< .. >", "int", false, false}, {"< .. >", "'a", false, true}, {"< .. >", "< >", true, false}, {"< .. >", "< a : int ; b : int ; c : int >", true, false},
		{"< a : 'x ; c : 'x ; .. >", "< a : int ; b : bool ; c : int >", true, false}, {"< a : 'x ; c : 'x ; .. >", "< a : int ; b : bool ; c : bool >", false, false},
		{"< .. > -> < .. >", "(< .. > as 'a) -> 'a", true, false}, {"(< .. > as 'a) -> 'a", "< > -> < >", true, false}, {"(< .. > as 'a) -> 'a", "< > -> < m : int >", false, false},
		{"'a -> 'b", "int -> 'c as 'c", true, false}, {"int -> 'a as 'a", "int -> int -> 'a as 'a", true, true}, {"'a -> 'a", "(int -> 'b as 'b) -> (int -> int -> 'c as 'c)", true, false},
		{"'a * 'b", "'a * 'a", true, false}, {"< m : 'a > as 'a", "< m : < m : 'a > > as 'a", true, true}, {"< m : 'a ; .. > as 'a", "< m : 'a > as 'a", true, false}, {"< m : 'a ; .. > as 'a", "< m : 'a ; n : int > as 'a", true, false},
		{"< m : 'a ; .. > as 'a", "< m : < m : int > >", false, false}, {"(int -> 'x) * (int -> 'x)", "(int -> bool as 'a) * 'a", true, false},
	} {
		g, h := read(t, c.g), read(t, c.h)
		if inst.Is(g, h) != c.is || inst.Is(h, g) != c.back || inst.More(g, h) != (c.is && !c.back) || inst.More(h, g) != (c.back && !c.is) {
			t.Error(c, inst.Is(g, h), inst.Is(h, g))
		}
	}
}

// P11.1: closed types, and what closes one.
func TestClose(t *testing.T) {
	for text, want := range map[string]string{"int": "int", "'a -> 'a": "unit -> unit", "< m : 'a ; .. > as 'b": "< m : unit >", "(< .. > as 'a) -> 'a": "< > -> < >", "< m : 'a > as 'a": "< m : 'a > as 'a", "'a": "unit"} {
		g := read(t, text)
		h := inst.Close(g)
		if !graph.Same(h, read(t, want)) || inst.Closed(g) != (text == want) || !inst.Closed(h) || h.Root != 0 {
			t.Error(text, h)
		}
	}
	g := gr(1, va, con("int"))
	if !inst.Closed(g) || len(inst.Close(g).N) != 1 {
		t.Error("not reached")
	}
	o := gr(0, obj(true, "m", 0))
	inst.Close(o).N[0].Labels[0] = "z"
	if o.N[0].Labels[0] != "m" || !o.N[0].Open {
		t.Error("shared")
	}
}

// P11.1: of what may not be.
func TestBad(t *testing.T) {
	ok := gr(0, va)
	for i, g := range []api.Graph{{}, gr(0, con("->", 0)), gr(3, va), {N: make([]api.Node, api.MaxNodes+1)}} {
		if inst.Is(g, ok) || inst.Is(ok, g) || inst.More(g, ok) || inst.More(ok, g) || inst.Closed(g) || len(inst.Close(g).N) != 0 || inst.Close(g).Root != 0 {
			t.Error(i)
		}
	}
}

func random(r *rand.Rand, n int) api.Graph {
	g := api.Graph{Root: r.Intn(n)}
	a := func() int { return r.Intn(n) }
	for range n {
		g.N = append(g.N, []api.Node{va, va, con("int"), con("->", a(), a()), con("*", a(), a()), obj(false, "m", a()), obj(true, "m", a()), obj(r.Intn(2) == 0, "mn", a(), a()), obj(true, "")}[r.Intn(9)])
	}
	return g
}

// slow matches all pairs there are.
func slow(g, h api.Graph) bool {
	h = canon.Least(h)
	seen := map[[2]int]int{}
	free := map[int]int{}
	var match func(a, b int) bool
	match = func(a, b int) bool {
		if seen[[2]int{a, b}]++; seen[[2]int{a, b}] > 1 {
			return true
		}
		x, y := g.N[a], h.N[b]
		if x.Kind == api.NVar || x.Open {
			if c, met := free[a]; met && c != b {
				return false
			}
			free[a] = b
		}
		if x.Kind == api.NVar {
			return true
		}
		if x.Kind != y.Kind || x.Name != y.Name || !x.Open && (y.Open || !slices.Equal(x.Labels, y.Labels)) {
			return false
		}
		for i, c := range x.Args {
			j := i
			if x.Open {
				j = slices.Index(y.Labels, x.Labels[i])
			}
			if j < 0 || !match(c, y.Args[j]) {
				return false
			}
		}
		return true
	}
	return match(g.Root, h.Root)
}

// P11.2: the laws of instances.
func TestLaws(t *testing.T) {
	r := rand.New(rand.NewSource(8))
	is, met, both := 0, 0, 0
	for range 30000 {
		g, h := random(r, 1+r.Intn(5)), random(r, 1+r.Intn(5))
		if inst.Is(g, h) != slow(g, h) || !inst.Is(g, g) || !inst.Is(gr(0, va), g) || !inst.Is(g, inst.Close(g)) || !inst.Closed(inst.Close(g)) || !inst.Is(g, canon.Least(g)) || !inst.Is(canon.Least(g), g) {
			t.Fatal(g, h)
		}
		m, e := solve.Meet(g, h)
		if e == api.OK {
			met++
			if !inst.Is(g, m) || !inst.Is(h, m) {
				t.Fatal(g, h, m)
			}
		}
		if inst.Is(g, h) != (e == api.OK && graph.Same(m, h)) {
			t.Fatal(g, h, m)
		}
		if inst.Is(g, h) {
			is++
			if k := random(r, 1+r.Intn(4)); inst.Is(h, k) && !inst.Is(g, k) {
				t.Fatal(g, h, k)
			}
		}
		if inst.Is(g, h) && inst.Is(h, g) {
			both++
			if !graph.Same(g, h) {
				t.Fatal(g, h)
			}
		}
	}
	if is < 1000 || met < 1000 || both < 500 {
		t.Error(is, met, both)
	}
}

// P11.1: great graphs.
func TestGreat(t *testing.T) {
	n := 300007
	ring := func(n int) api.Graph {
		g := api.Graph{}
		for i := range n {
			g.N = append(g.N, con("->", n, (i+1)%n))
		}
		g.N = append(g.N, con("int"))
		return g
	}
	if !inst.Is(ring(n), ring(n-14)) || !inst.Is(ring(n-14), ring(n)) {
		t.Error("rings")
	}
}
