package load_test

import (
	"slices"
	"strconv"
	"strings"
	"testing"

	"trefoil/api"
	"trefoil/graph"
	"trefoil/lex"
	"trefoil/load"
	"trefoil/sample"
	"trefoil/typ"
)

var con, obj, va = sample.Con, sample.Obj, sample.Var()

func equal(g api.Graph, n []api.Node) bool {
	return g.Root == 0 && slices.EqualFunc(g.N, n, func(a, b api.Node) bool {
		return a.Kind == b.Kind && a.Name == b.Name && a.Open == b.Open && slices.Equal(a.Args, b.Args) && slices.Equal(a.Labels, b.Labels)
	})
}

// P7.1, P7.2: graphs, node by node.
func TestRead(t *testing.T) {
	for text, want := range map[string][]api.Node{
		"int": {con("int")}, "'a": {va}, "int -> int": {con("->", 1, 2), con("int"), con("int")}, "'a -> 'b -> 'a": {con("->", 1, 2), va, con("->", 3, 1), va},
		"< m : 'a > as 'a": {obj(false, "m", 0)}, "'a -> 'b as 'b": {con("->", 1, 0), va}, "< b : 'b ; a : 'a ; .. >": {obj(true, "ab", 1, 2), va, va}, "< .. > * < >": {con("*", 1, 2), obj(true, ""), obj(false, "")},
		"'a * (bool * (int as 'a))": {con("*", 1, 2), con("int"), con("*", 3, 1), con("bool")}, "'a -> (int as 'a)": {con("->", 1, 1), con("int")}, "(int as 'b) as 'a": {con("int")}, "('c as 'b) as 'a": {va},
		"'a * ('b as 'a) * 'b": {con("*", 1, 2), va, con("*", 1, 1)}, "'a * (('a -> 'b as 'b) as 'a)": {con("*", 1, 1), con("->", 1, 1)}, "('a as 'b) * (int as 'a)": {con("*", 1, 1), con("int")},
		"(int as 'b) * ('b -> 'b)": {con("*", 1, 2), con("int"), con("->", 1, 1)}, "int * int as 'z": {con("*", 1, 2), con("int"), con("int")}, "'let * ('let as 'in)": {con("*", 1, 1), va},
	} {
		g, e := load.Read(text)
		if e != api.OK || !equal(g, want) || graph.Check(g) != api.OK {
			t.Errorf("%q: %v %d", text, g, e)
		}
	}
}

// P7.1, P7.2: what is no type.
func TestFaults(t *testing.T) {
	deep := strings.Repeat("int -> ", api.MaxDeep) + "int"
	for text, want := range map[string]api.Errno{
		"": api.ErrForm, "int int": api.ErrForm, "int )": api.ErrForm, "int as": api.ErrForm, "x": api.ErrForm, "'": api.ErrLex, "int ?": api.ErrLex, strings.Repeat(" ", api.MaxText+1): api.ErrLong, deep: api.ErrDeep, deep + " )": api.ErrDeep,
		"'a as 'a": api.ErrForm, "('a as 'b) as 'a": api.ErrForm, "('b as 'a) * ('a as 'b)": api.ErrForm, "int * ('c as 'a) * ('a as 'b) * ('b as 'c)": api.ErrForm, "(int as 'a) * (int as 'a)": api.ErrForm,
		"(int as 'a) as 'a": api.ErrForm, "< m : ('a as 'a) >": api.ErrForm, "'a -> ('b as 'b)": api.ErrForm,
	} {
		if g, e := load.Read(text); e != want || !equal(g, nil) {
			t.Errorf("%.20q: %v %d", text, g, e)
		}
	}
	in := api.Type{Kind: api.TCon, S: "int"}
	x := in
	for range api.MaxDeep {
		x = api.Type{Kind: api.TAs, S: "a", Args: []api.Type{x}}
	}
	for i, c := range []struct {
		t    api.Type
		want api.Errno
	}{{api.Type{}, api.ErrArg}, {x, api.ErrDeep}, {x.Args[0], api.ErrForm}, {api.Type{Kind: api.TAs, S: "a", Args: []api.Type{{Kind: api.TVar, S: "a"}}}, api.ErrForm}} {
		if g, e := load.Load(c.t); e != c.want || !equal(g, nil) {
			t.Error(i, e)
		}
	}
}

// P7.1: parts that share memory are parts of their own, and an answer is new memory.
func TestShared(t *testing.T) {
	in := api.Type{Kind: api.TCon, S: "int"}
	arrow := api.Type{Kind: api.TCon, S: "->", Args: []api.Type{in, in}}
	g, e := load.Load(api.Type{Kind: api.TCon, S: "*", Args: []api.Type{arrow, arrow}})
	if e != api.OK || len(g.N) != 7 {
		t.Error(g, e)
	}
	o := api.Type{Kind: api.TObj, Labels: []string{"m"}, Args: []api.Type{in}}
	g, _ = load.Load(o)
	g.N[0].Labels[0] = "x"
	if o.Labels[0] != "m" {
		t.Error("shared")
	}
}

// P7.1: names of variables.
func TestNames(t *testing.T) {
	for text, want := range map[string]string{
		"int": "", "'a": "a", "'b -> 'a * 'b": "b a", "'a -> 'b as 'b": "a", "'b -> (int as 'b)": "", "< z : 'x ; a : 'y >": "y x", "('a as 'b) * 'c": "a c", "('a as 'a) * 'b": "b", "'let * 'let": "let",
	} {
		x := parsed(t, text)
		if got := strings.Join(load.Names(x), " "); got != want {
			t.Errorf("%q: %q", text, got)
		}
	}
	if load.Names(api.Type{}) != nil || load.Names(api.Type{Kind: api.TCon, S: "->", Args: []api.Type{{Kind: api.TVar, S: "a"}}}) != nil {
		t.Error("what may not be")
	}
}

// P7.3: other names, one by one, and a name that isn't there, change nothing.
func TestSame(t *testing.T) {
	for _, l := range [][2]string{{"'a -> 'b -> 'a", "'x -> 'a -> 'x"}, {"< m : 'a -> 'b > as 'a", "< m : 'z -> 'y > as 'z"}, {"int -> 'a", "int -> 'a as 'b"}, {"int -> 'a", "int -> ('a as 'z)"}} {
		g, _ := load.Read(l[0])
		h, _ := load.Read(l[1])
		if !graph.Same(g, h) {
			t.Error(l)
		}
		free := 0
		for _, n := range g.N {
			if n.Kind == api.NVar {
				free++
			}
		}
		if free != len(load.Names(parsed(t, l[0]))) {
			t.Error(l, free)
		}
	}
}

// A long chain of names.
func TestChain(t *testing.T) {
	n := 200000
	o := api.Type{Kind: api.TObj}
	for i := range n {
		s := strconv.Itoa(1000000 + i)
		o.Labels = append(o.Labels, "a"+s)
		o.Args = append(o.Args, api.Type{Kind: api.TAs, S: "a" + s, Args: []api.Type{{Kind: api.TVar, S: "a" + strconv.Itoa(1000001+i)}}})
	}
	if g, e := load.Load(o); e != api.OK || len(g.N) != 2 {
		t.Error(e, len(g.N))
	}
	o.Args[n-1].Args[0].S = "a1000000"
	if _, e := load.Load(o); e != api.ErrForm {
		t.Error(e)
	}
}

func parsed(t *testing.T, text string) api.Type {
	l, _, _ := lex.Lex(text)
	x, _, e := typ.Parse(l, 0)
	if e != api.OK {
		t.Fatal(text, e)
	}
	return x
}
