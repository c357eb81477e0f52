package env_test

import (
	"slices"
	"strconv"
	"testing"

	"trefoil/api"
	"trefoil/env"
	"trefoil/graph"
	"trefoil/load"
	"trefoil/name"
	"trefoil/sample"
)

var con, va = sample.Con, sample.Var()

func read(t *testing.T, s string) api.Graph {
	g, e := load.Read(s)
	if e != api.OK {
		t.Fatal(s, e)
	}
	return g
}

func put(g api.Graph) string { s, _ := name.Put(g); return s }

// P14.2: what is there from the start.
func TestNew(t *testing.T) {
	e := env.New()
	if !slices.Equal(e.Values(), []string{"fst", "not", "snd"}) || len(e.Classes()) != 0 {
		t.Error(e.Values(), e.Classes())
	}
	for s, want := range map[string]string{"fst": "'a * 'b -> 'a", "snd": "'a * 'b -> 'b", "not": "bool -> bool"} {
		g, no := e.Value(s)
		if put(g) != want || no != api.OK {
			t.Error(s, put(g), no)
		}
		if _, no := e.Class(s); no != api.ErrNone {
			t.Error(s, no)
		}
	}
	if g, no := e.Value("x"); len(g.N) != 0 || no != api.ErrNone {
		t.Error(no)
	}
}

// P14.2, P14.3: the last meaning counts, an Env never changes, values and classes are apart.
func TestWith(t *testing.T) {
	e := env.New()
	a, no := e.WithValue("x", read(t, "int -> int"))
	b, no2 := a.WithValue("x", read(t, "'a -> 'b"))
	c, no3 := b.WithClass("x", env.Class{G: read(t, "< v : int > * < m : int ; n : bool ; .. >"), Concrete: []string{"m"}, Virtual: []string{"n"}})
	d, no4 := c.WithValue("fst", read(t, "int"))
	if no != api.OK || no2 != api.OK || no3 != api.OK || no4 != api.OK {
		t.Fatal(no, no2, no3, no4)
	}
	told := func(e *env.Env, s string) string { g, _ := e.Value(s); return put(g) }
	if told(e, "x") != "" || told(a, "x") != "int -> int" || told(b, "x") != "'a -> 'b" || told(d, "x") != "'a -> 'b" || told(d, "fst") != "int" || told(c, "fst") != "'a * 'b -> 'a" {
		t.Error("values")
	}
	if len(b.Classes()) != 0 || !slices.Equal(d.Classes(), []string{"x"}) || !slices.Equal(d.Values(), []string{"fst", "not", "snd", "x"}) || !slices.Equal(e.Values(), []string{"fst", "not", "snd"}) {
		t.Error("names")
	}
	x, no := d.Class("x")
	if no != api.OK || put(x.G) != "< v : int > * < m : int ; n : bool ; .. >" || !slices.Equal(x.Concrete, []string{"m"}) || !slices.Equal(x.Virtual, []string{"n"}) || x.Params != 0 || !slices.Equal(env.Fields(x), []string{"v"}) {
		t.Error(x, no)
	}
	if _, no := b.Class("x"); no != api.ErrNone {
		t.Error(no)
	}
	g, _ := e.WithValue("y", api.Graph{Root: 2, N: []api.Node{va, con("int"), con("->", 1, 4), con("bool"), con("->", 1, 2)}})
	if y, _ := g.Value("y"); len(y.N) != 2 || y.Root != 0 {
		t.Error("not the least", y)
	}
}

// P14.2: what is handed in and out is nobody else's.
func TestOwn(t *testing.T) {
	e := env.New()
	c := env.Class{Params: 1, G: read(t, "int -> < v : int > * < m : int >"), Concrete: []string{"m"}}
	e, _ = e.WithClass("c", c)
	c.G.N[0].Name, c.Concrete[0] = "*", "z"
	for range 2 {
		x, _ := e.Class("c")
		if put(x.G) != "int -> < v : int > * < m : int >" || x.Concrete[0] != "m" {
			t.Error(x)
		}
		x.G.N[0].Name, x.Concrete[0], x.G.N[3].Labels[0] = "*", "q", "w"
	}
	for range 2 {
		g, _ := e.Value("not")
		if put(g) != "bool -> bool" {
			t.Error(put(g))
		}
		g.N[0].Args[0] = 0
		e.Values()[0] = "z"
	}
}

// P14.2: errors, and a nil Env.
func TestFaults(t *testing.T) {
	e, ok, bad, long := env.New(), read(t, "int"), api.Graph{}, api.Graph{N: make([]api.Node, api.MaxNodes+1)}
	class := env.Class{G: read(t, "< > * < >")}
	for i, c := range []struct {
		name string
		g    api.Graph
		want api.Errno
	}{{"x", ok, api.OK}, {"", ok, api.ErrArg}, {"let", ok, api.ErrArg}, {"X", long, api.ErrArg}, {"x", bad, api.ErrArg}, {"x", long, api.ErrLong}} {
		f, no := e.WithValue(c.name, c.g)
		if no != c.want || (f == nil) != (no != api.OK) {
			t.Error(i, no)
		}
		class.G = read(t, "< > * < >")
		if c.want != api.OK && lexed(c.name) {
			class.G = c.g
		}
		f, no = e.WithClass(c.name, class)
		if no != c.want || (f == nil) != (no != api.OK) {
			t.Error(i, no)
		}
	}
	if f, no := e.WithClass("x", env.Class{G: ok}); f != nil || no != api.ErrArg {
		t.Error(no)
	}
	var none *env.Env
	g, n1 := none.Value("x")
	c, n2 := none.Class("x")
	f, n3 := none.WithValue("", ok)
	h, n4 := none.WithClass("x", class)
	if n1 != api.ErrNil || n2 != api.ErrNil || n3 != api.ErrNil || n4 != api.ErrNil || len(g.N)+len(c.G.N) != 0 || f != nil || h != nil || none.Values() != nil || none.Classes() != nil {
		t.Error("nil")
	}
}

func lexed(s string) bool { return s == "x" }

// P14.1: which class's types may be.
func TestCheckClass(t *testing.T) {
	mn, m, n := []string{"m", "n"}, []string{"m"}, []string{"n"}
	for i, c := range []struct {
		params     int
		text       string
		has, lacks []string
		want       api.Errno
		fields     []string
	}{
		{0, "< > * < >", nil, nil, api.OK, nil}, {0, "< > * < .. >", []string{}, nil, api.OK, nil}, {0, "< b : int ; a : 'a > * < m : 'b ; n : 'a ; .. > ", mn, nil, api.OK, []string{"a", "b"}}, {0, "< > * < m : 'b ; n : 'a >", n, m, api.OK, nil},
		{2, "int -> bool -> < v : int > * < m : int ; .. >", nil, m, api.OK, []string{"v"}}, {0, "< > * (< m : 'a ; .. > as 'a)", m, nil, api.OK, nil}, {1, "('a -> int) -> (< v : 'a > * < .. >)", nil, nil, api.OK, []string{"v"}},
		{1, "< > * < >", nil, nil, api.ErrArg, nil}, {0, "int -> < > * < >", nil, nil, api.ErrArg, nil}, {-1, "< > * < >", nil, nil, api.ErrArg, nil}, {101, "'a", nil, nil, api.ErrArg, nil}, {0, "int", nil, nil, api.ErrArg, nil}, {0, "'a", nil, nil, api.ErrArg, nil}, {0, "< >", nil, nil, api.ErrArg, nil},
		{0, "< .. > * < >", nil, nil, api.ErrArg, nil}, {0, "int * < >", nil, nil, api.ErrArg, nil}, {0, "< > * int", nil, nil, api.ErrArg, nil}, {0, "< > * 'a", nil, nil, api.ErrArg, nil}, {0, "< > -> < >", nil, nil, api.ErrArg, nil}, {1, "int * < > * < >", nil, nil, api.ErrArg, nil},
		{0, "< > * < m : int >", nil, nil, api.ErrArg, nil}, {0, "< > * < >", m, nil, api.ErrArg, nil}, {0, "< > * < m : int >", m, m, api.ErrArg, nil}, {0, "< > * < m : int ; n : int >", []string{"n", "m"}, nil, api.ErrArg, nil}, {0, "< > * < m : int >", []string{"m", "m"}, nil, api.ErrArg, nil},
		{0, "< > * < m : int ; n : int >", m, []string{"o"}, api.ErrArg, nil}, {0, "< > * < m : int ; .. >", m, n, api.ErrArg, nil}, {0, "< > * < >", []string{""}, nil, api.ErrArg, nil}, {1, "< > * < > as 'a", nil, nil, api.ErrArg, nil}, {100, "int -> 'a as 'a", nil, nil, api.ErrArg, nil},
	} {
		x := env.Class{c.params, read(t, c.text), c.has, c.lacks}
		if no := env.CheckClass(x); no != c.want || !slices.Equal(env.Fields(x), c.fields) {
			t.Error(i, no, env.Fields(x))
		}
	}
	hundred := "< > * < >"
	for range 100 {
		hundred = "int -> " + hundred
	}
	if no := env.CheckClass(env.Class{Params: 100, G: read(t, hundred)}); no != api.OK {
		t.Error(no)
	}
	if no := env.CheckClass(env.Class{Params: 101, G: read(t, "int -> "+hundred)}); no != api.ErrArg {
		t.Error(no)
	}
	long := env.Class{Params: -1, G: api.Graph{N: make([]api.Node, api.MaxNodes+1)}}
	if env.CheckClass(long) != api.ErrLong || env.CheckClass(env.Class{Params: -1}) != api.ErrArg || env.Fields(long) != nil {
		t.Error("graphs that may not be")
	}
	f := env.Fields(env.Class{G: read(t, "< v : int > * < >")})
	f[0] = "x"
}

// P14.2: a long chain.
func TestMany(t *testing.T) {
	e := env.New()
	g := read(t, "int")
	for i := range 3000 {
		e, _ = e.WithValue("x"+strconv.Itoa(i%1000), g)
	}
	if x, no := e.Value("fst"); no != api.OK || len(e.Values()) != 1003 || graph.Check(x) != api.OK {
		t.Error(len(e.Values()))
	}
}
