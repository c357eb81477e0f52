package gen_test

import (
	"math/rand"
	"slices"
	"testing"

	"trefoil/api"
	"trefoil/gen"
	"trefoil/graph"
	"trefoil/sample"
)

var con, obj, gr, va, equal = sample.Con, sample.Obj, sample.Graph, sample.Var(), sample.Equal

// P13.1, P13.2: what is fixed, and generic, and copied.
func TestFresh(t *testing.T) {
	for i, c := range []struct {
		g              api.Graph
		mono           []int
		fixed, generic []int
		more           []api.Node
		root           int
	}{
		{gr(0, con("->", 1, 2), va, va), []int{2}, []int{2}, []int{1}, []api.Node{con("->", 4, 2), va}, 3},
		{gr(0, con("->", 1, 2), va, va), nil, nil, []int{1, 2}, []api.Node{con("->", 4, 5), va, va}, 3},
		{gr(0, con("->", 1, 2), va, va), []int{0}, []int{1, 2}, nil, nil, 0},
		{gr(0, con("->", 1, 2), va, va), []int{2, 1, 2}, []int{1, 2}, nil, nil, 0},
		{gr(1, con("->", 1, 2), con("*", 3, 4), va, va, con("int")), []int{2}, []int{2}, []int{3}, []api.Node{con("*", 6, 4), va}, 5},
		{gr(1, va, con("int")), []int{0}, []int{0}, nil, nil, 1},
		{gr(0, con("int"), va), nil, nil, nil, nil, 0},
		{gr(0, con("->", 1, 0), va), nil, nil, []int{1}, []api.Node{con("->", 3, 2), va}, 2},
		{gr(0, obj(true, "m", 1), obj(true, "m", 0)), []int{1}, []int{0, 1}, nil, nil, 0},
		{gr(2, va, con("->", 0, 1), con("*", 1, 3), con("*", 4, 4), obj(true, "m", 0)), []int{0}, []int{0}, []int{4}, []api.Node{con("*", 1, 6), con("*", 7, 7), obj(true, "m", 0)}, 5},
		{gr(3, va, con("int"), con("*", 1, 4), con("->", 2, 0), con("bool")), nil, nil, []int{0}, []api.Node{con("->", 2, 6), va}, 5},
	} {
		fixed, e1 := gen.Fixed(c.g, c.mono)
		generic, e2 := gen.Generic(c.g, c.mono)
		h, e3 := gen.Fresh(c.g, c.mono)
		want := api.Graph{N: append(slices.Clone(c.g.N), c.more...), Root: c.root}
		if e1 != api.OK || e2 != api.OK || e3 != api.OK || !slices.Equal(fixed, c.fixed) || !slices.Equal(generic, c.generic) || !equal(h, want) {
			t.Error(i, fixed, generic, h)
		}
	}
}

// P13.1, P13.2: errors.
func TestFaults(t *testing.T) {
	half := gr(api.MaxNodes/2, slices.Repeat([]api.Node{con("int")}, api.MaxNodes/2)...)
	half.N = append(half.N, va)
	for i := range half.N[:api.MaxNodes/2] {
		half.N[i] = con("->", i+1, i+1)
	}
	half.Root = 0
	for i, c := range []struct {
		g     api.Graph
		mono  []int
		want  api.Errno
		fresh api.Errno
	}{
		{api.Graph{}, []int{0}, api.ErrArg, api.ErrArg}, {api.Graph{N: make([]api.Node, api.MaxNodes+1)}, []int{-1}, api.ErrLong, api.ErrLong}, {gr(0, va), []int{1}, api.ErrArg, api.ErrArg}, {gr(0, va), []int{0, -1}, api.ErrArg, api.ErrArg}, {half, []int{api.MaxNodes}, api.ErrArg, api.ErrArg},
		{half, nil, api.OK, api.ErrLong}, {half, []int{api.MaxNodes / 2}, api.OK, api.OK},
	} {
		fixed, e1 := gen.Fixed(c.g, c.mono)
		generic, e2 := gen.Generic(c.g, c.mono)
		h, e3 := gen.Fresh(c.g, c.mono)
		if e1 != c.want || e2 != c.want || e3 != c.fresh || e1 != api.OK && len(fixed)+len(generic) > 0 || e3 != api.OK && !equal(h, api.Graph{}) {
			t.Error(i, e1, e2, e3)
		}
	}
	half.N = half.N[1:]
	for i := range half.N[:len(half.N)-1] {
		half.N[i] = con("->", i+1, i+1)
	}
	if h, e := gen.Fresh(half, nil); e != api.OK || len(h.N) != api.MaxNodes {
		t.Error("just as many", e, len(h.N))
	}
}

func random(r *rand.Rand, n int) api.Graph {
	g := api.Graph{Root: r.Intn(n)}
	a := func() int { return r.Intn(n) }
	for range n {
		g.N = append(g.N, []api.Node{va, va, con("int"), con("->", a(), a()), con("*", a(), a()), obj(false, "m", a()), obj(true, "m", a()), obj(r.Intn(2) == 0, "mn", a(), a()), obj(true, "")}[r.Intn(9)])
	}
	return g
}

// P13.3: a copy without monos is the same type; it has the fixed nodes in common, and no generic one; without generic ones nothing is copied.
func TestLaws(t *testing.T) {
	r := rand.New(rand.NewSource(10))
	for range 20000 {
		n := 1 + r.Intn(7)
		g := random(r, n)
		h, _ := gen.Fresh(g, nil)
		if graph.Check(h) != api.OK || !graph.Same(g, h) || !equal(api.Graph{N: h.N[:n], Root: g.Root}, g) {
			t.Fatal(g, h)
		}
		var mono []int
		for range r.Intn(3) {
			mono = append(mono, r.Intn(n))
		}
		was := slices.Clone(mono)
		h, _ = gen.Fresh(g, mono)
		fixed, _ := gen.Fixed(g, mono)
		generic, _ := gen.Generic(g, mono)
		own, free := graph.Reach(g), graph.Free(g)
		is := graph.Reach(h)
		if !slices.IsSorted(fixed) || !slices.IsSorted(generic) || !slices.Equal(mono, was) {
			t.Fatal(g, mono, fixed, generic)
		}
		for _, f := range free {
			if slices.Contains(fixed, f) == slices.Contains(generic, f) || slices.Contains(fixed, f) != slices.Contains(is, f) {
				t.Fatal(g, mono, h)
			}
		}
		for _, f := range generic {
			if !slices.Contains(own, f) || !slices.Contains(free, f) {
				t.Fatal(g, mono, generic)
			}
		}
		if len(generic) == 0 && !equal(h, g) {
			t.Fatal(g, mono, h)
		}
		if len(is) != len(own) {
			t.Fatal(g, mono, h)
		}
	}
	g := gr(0, obj(true, "m", 0))
	h, _ := gen.Fresh(g, nil)
	h.N[0].Labels[0], h.N[1].Labels[0] = "x", "y"
	if g.N[0].Labels[0] != "m" || h.N[0].Labels[0] != "x" {
		t.Error("shared")
	}
}
