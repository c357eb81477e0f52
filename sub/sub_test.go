package sub_test

import (
	"math/rand"
	"slices"
	"testing"

	"trefoil/api"
	"trefoil/graph"
	"trefoil/load"
	"trefoil/name"
	"trefoil/sample"
	"trefoil/sub"
)

var con, obj, gr, va = sample.Con, sample.Obj, sample.Graph, sample.Var()

func read(t *testing.T, s string) api.Graph {
	g, e := load.Read(s)
	if e != api.OK {
		t.Fatal(s, e)
	}
	return g
}

// P12.1: which may stand for which.
func TestIs(t *testing.T) {
	for _, c := range []struct {
		g, h     string
		is, back bool
	}{
		{"int", "int", true, true}, {"int", "bool", false, false}, {"< m : int ; n : int >", "< m : int >", true, false}, {"< m : int >", "< n : int >", false, false}, {"< >", "int", false, false}, {"< > -> int", "< m : int > -> int", true, false},
		{"int -> < m : int >", "int -> < >", true, false}, {"< > -> < m : int >", "< m : int > -> < >", true, false}, {"< m : int > -> < m : int >", "< > -> < >", false, false}, {"< m : int > * int", "< > * int", true, false}, {"int * < m : int >", "int * < >", true, false},
		{"(< m : int > -> int) -> int", "(< > -> int) -> int", true, false}, {"int -> int", "int * int", false, false}, {"< m : < a : int > >", "< m : < > >", true, false}, {"< m : < > >", "< m : < a : int > ; n : int >", false, true},
		{"< m : 'a ; n : int > as 'a", "< m : 'a > as 'a", true, false}, {"< m : 'a -> int ; n : int > as 'a", "< m : 'a -> int > as 'a", false, false}, {"< m : int -> 'a ; n : int > as 'a", "< m : int -> 'a > as 'a", true, false},
		{"< m : < m : 'a > > as 'a", "< m : 'a > as 'a", true, true}, {"< m : ('a -> int) -> int ; n : int > as 'a", "< m : ('a -> int) -> int > as 'a", true, false}, {"'a -> int as 'a", "('a -> int) -> int as 'a", true, true},
		{"unit * string", "unit * string", true, true}, {"< a : int ; b : int ; c : int >", "< b : int >", true, false}, {"< a : int ; b : int ; c : int >", "< a : int ; c : bool >", false, false},
	} {
		g, h := read(t, c.g), read(t, c.h)
		is, e := sub.Is(g, h)
		back, e2 := sub.Is(h, g)
		if e != api.OK || e2 != api.OK || is != c.is || back != c.back {
			t.Error(c, is, back, e, e2)
		}
	}
}

// P12.1: errors.
func TestFaults(t *testing.T) {
	ok, open, bad, long := gr(0, con("int")), gr(0, va), api.Graph{}, api.Graph{N: make([]api.Node, api.MaxNodes+1)}
	for i, c := range []struct {
		g, h api.Graph
		want api.Errno
	}{
		{bad, long, api.ErrArg}, {long, bad, api.ErrLong}, {ok, long, api.ErrLong}, {open, long, api.ErrLong}, {open, bad, api.ErrArg}, {ok, open, api.ErrArg}, {open, ok, api.ErrArg}, {gr(0, obj(true, "")), ok, api.ErrArg}, {gr(1, va, con("int")), ok, api.OK},
	} {
		is, e := sub.Is(c.g, c.h)
		if e != c.want || is != (e == api.OK) {
			t.Error(i, is, e)
		}
	}
}

// P12.2: labels that are forgotten.
func TestForget(t *testing.T) {
	for _, c := range [][3]string{
		{"< m : int ; n : bool >", "m", "< n : bool >"}, {"< m : int >", "m", "< >"}, {"< m : int ; n : bool ; .. >", "n", "< m : int ; .. >"}, {"< m : 'a ; n : int > as 'a", "n", "< m : (< m : 'a ; n : int > as 'a) >"}, {"< m : 'a ; n : int > as 'a", "m", "< n : int >"},
		{"< m : 'x ; n : 'x >", "m", "< n : 'a >"}, {"< m : 'a ; n : 'a ; .. > as 'a", "n", "< m : (< m : 'a ; n : 'a ; .. > as 'a) ; .. >"},
	} {
		g := read(t, c[0])
		was := slices.Clone(g.N[0].Labels)
		h, e := sub.Forget(g, c[1])
		if e != api.OK || !graph.Same(h, read(t, c[2])) || h.Root != 0 || len(graph.Trim(h).N) != len(h.N) || !slices.Equal(g.N[0].Labels, was) {
			s, _ := name.Put(h)
			t.Error(c, s, e)
		}
	}
	for i, c := range []struct {
		g    api.Graph
		s    string
		want api.Errno
	}{{api.Graph{}, "m", api.ErrArg}, {api.Graph{N: make([]api.Node, api.MaxNodes+1)}, "m", api.ErrLong}, {gr(0, con("int")), "m", api.ErrNone}, {gr(0, va), "", api.ErrNone}, {gr(0, obj(true, "m", 0)), "n", api.ErrNone}, {gr(0, obj(true, "m", 0)), "", api.ErrNone}, {gr(0, con("->", 1, 1), obj(false, "m", 0)), "m", api.ErrNone}} {
		if h, e := sub.Forget(c.g, c.s); e != c.want || len(h.N) != 0 {
			t.Error(i, e)
		}
	}
	many := api.Graph{N: slices.Repeat([]api.Node{va}, api.MaxNodes)}
	many.N[0] = obj(false, "mn", 1, 2)
	if h, e := sub.Forget(many, "m"); e != api.OK || len(h.N) != 2 {
		t.Error("as many nodes as there may be", e, len(h.N))
	}
}

func random(r *rand.Rand, n int) api.Graph {
	g := api.Graph{Root: r.Intn(n)}
	a := func() int { return r.Intn(n) }
	for range n {
		g.N = append(g.N, []api.Node{con("int"), con("->", a(), a()), con("*", a(), a()), obj(false, "m", a()), obj(false, "m", a()), obj(false, "mn", a(), a()), obj(false, "")}[r.Intn(7)])
	}
	return g
}

// slow finds what may stand for what by taking away what can't.
func slow(g, h api.Graph) bool {
	type key struct {
		a, b   int
		turned bool
	}
	no := map[key]bool{}
	for changed := true; changed; {
		changed = false
		for a, x := range g.N {
			for b, y := range h.N {
				for _, turned := range []bool{false, true} {
					bad := x.Kind != y.Kind || x.Name != y.Name
					for i := 0; !bad && x.Kind == api.NCon && i < len(x.Args); i++ {
						bad = no[key{x.Args[i], y.Args[i], turned != (x.Name == "->" && i == 0)}]
					}
					for _, s := range append(slices.Clone(x.Labels), y.Labels...) {
						i, j := slices.Index(x.Labels, s), slices.Index(y.Labels, s)
						if i >= 0 && j >= 0 {
							bad = bad || no[key{x.Args[i], y.Args[j], turned}]
						} else {
							bad = bad || i < 0 && !turned || j < 0 && turned
						}
					}
					if k := (key{a, b, turned}); bad && !no[k] {
						no[k], changed = true, true
					}
				}
			}
		}
	}
	return !no[key{g.Root, h.Root, false}]
}

// P12.3: the laws.
func TestLaws(t *testing.T) {
	r := rand.New(rand.NewSource(9))
	is, both := 0, 0
	for range 20000 {
		g, h, k := random(r, 1+r.Intn(5)), random(r, 1+r.Intn(5)), random(r, 1+r.Intn(3))
		stands := func(a, b api.Graph) bool { ok, _ := sub.Is(a, b); return ok }
		if stands(g, h) != slow(g, h) || !stands(g, g) {
			t.Fatal(g, h)
		}
		if stands(g, h) {
			is++
			if stands(h, k) && !stands(g, k) {
				t.Fatal(g, h, k)
			}
			if stands(h, g) {
				both++
				if !graph.Same(g, h) {
					t.Fatal(g, h)
				}
			}
		}
		if f, e := sub.Forget(g, "m"); e == api.OK && !stands(g, f) {
			t.Fatal(g, f)
		}
	}
	if is < 1000 || both < 500 {
		t.Error(is, both)
	}
}

// P12.1: great graphs.
func TestGreat(t *testing.T) {
	ring := func(n int, o api.Node) api.Graph {
		g := api.Graph{}
		for i := range n {
			x := o
			x.Args = slices.Repeat([]int{(i + 1) % n}, len(o.Labels))
			g.N = append(g.N, x)
		}
		return g
	}
	if ok, e := sub.Is(ring(300007, obj(false, "mn")), ring(299993, obj(false, "m"))); !ok || e != api.OK {
		t.Error(ok, e)
	}
}
