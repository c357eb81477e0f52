package class_test

import (
	"slices"
	"strings"
	"testing"

	"trefoil/api"
	"trefoil/canon"
	"trefoil/class"
	"trefoil/env"
	"trefoil/graph"
	"trefoil/inst"
	"trefoil/load"
	"trefoil/name"
)

// kind is a class's type: those of its methods that lack are virtual.
func kind(t *testing.T, params int, text, lacks string) env.Class {
	g, e := load.Read(text)
	if e != api.OK {
		t.Fatal(text, e)
	}
	c := env.Class{Params: params, G: g, Virtual: strings.Fields(lacks)}
	n := g.N[g.Root]
	for range params + 1 {
		n = g.N[n.Args[1]]
	}
	for _, s := range n.Labels {
		if !slices.Contains(c.Virtual, s) {
			c.Concrete = append(c.Concrete, s)
		}
	}
	return c
}

func put(g api.Graph) string { s, _ := name.Put(g); return s }

// P17.1, P17.2: texts, and what new makes.
func TestTextAndMaker(t *testing.T) {
	for _, c := range []struct {
		params            int
		text, lacks       string
		told, maker, open string
	}{
		{0, "< > * < m : int ; .. >", "", "class c : < > * < m : int ; .. >", "< m : int >", "m"},
		{0, "< > * < .. >", "", "class c : < > * < .. >", "< >", ""},
		{1, "'x -> < v : 'x > * < get : 'x ; .. >", "", "class c : 'a -> < v : 'a > * < get : 'a ; .. >", "'a -> < get : 'a >", "get"},
		{2, "'x -> int -> < > * < get : 'x ; put : bool ; .. >", "put", "class c : 'a -> int -> < > * < get : 'a ; put : bool ; .. > virtual put", "", ""},
		{0, "< > * < a : int ; b : int ; c : int ; .. >", "a c", "class c : < > * < a : int ; b : int ; c : int ; .. > virtual a c", "", ""},
		{0, "< > * (< me : 'a ; .. > as 'a)", "", "class c : < > * (< me : 'a ; .. > as 'a)", "< me : 'a > as 'a", "me"},
		{0, "< > * < m : 'a ; .. > as 'a", "", "class c : < > * < m : 'a ; .. > as 'a", "< m : < > * 'a > as 'a", "m"},
		{1, "(< m : int ; .. > as 's) -> < v : 's > * 's", "", "class c : (< m : int ; .. > as 'a) -> < v : 'a > * 'a", "(< m : int > as 'a) -> 'a", "m"},
		{0, "< v : int > * < m : int >", "", "class c : < v : int > * < m : int >", "< m : int >", "m"},
	} {
		k := kind(t, c.params, c.text, c.lacks)
		was := slices.Clone(k.G.N)
		if s, e := class.Text("c", k); e != api.OK || s != c.told {
			t.Errorf("%q: %q %d", c.text, s, e)
		}
		g, e := class.Maker(k)
		if c.maker == "" && e != api.ErrType || c.maker != "" && (e != api.OK || put(g) != canonical(t, c.maker)) {
			t.Errorf("%q: %q %d", c.text, put(g), e)
		}
		if len(canon.Least(g).N) != len(g.N) || !slices.EqualFunc(was, k.G.N, func(a, b api.Node) bool { return a.Open == b.Open && slices.Equal(a.Args, b.Args) }) {
			t.Errorf("%q: not the least, or changed", c.text)
		}
	}
}

func canonical(t *testing.T, s string) string {
	g, e := load.Read(s)
	if e != api.OK {
		t.Fatal(s, e)
	}
	return put(g)
}

// P17.2: methods.
func TestMethod(t *testing.T) {
	for _, c := range []struct {
		params          int
		text, name, put string
	}{
		{0, "< v : int > * < m : int -> 'a ; n : 'a ; .. >", "m", "(< m : int -> 'b ; n : 'b ; .. > as 'a) -> int -> 'b"}, {0, "< v : int > * < m : int >", "m", "< m : int > -> int"}, {0, "< v : int > * < m : int >", "v", ""}, {0, "< > * < m : int >", "", ""}, {1, "'x -> < v : 'x > * < get : 'x ; .. >", "get", "< get : 'a ; .. > -> 'a"},
		{0, "< > * (< me : 'a ; .. > as 'a)", "me", "(< me : 'a ; .. > as 'a) -> 'a"},
	} {
		k := kind(t, c.params, c.text, "")
		g, e := class.Method(k, c.name)
		if c.put == "" && (e != api.ErrNone || len(g.N) > 0) || c.put != "" && (e != api.OK || put(g) != canonical(t, c.put)) {
			t.Errorf("%q: %q %d", c.text, put(g), e)
		}
	}
	if g, e := class.Method(kind(t, 0, "< > * < m : int ; .. >", "m"), "m"); e != api.OK || put(g) != "< m : int ; .. > -> int" {
		t.Error(put(g), e)
	}
}

// P17.3, P17.4: whose objects may stand for whose.
func TestStands(t *testing.T) {
	for _, c := range []struct {
		p        int
		g        string
		q        int
		h        string
		is, back bool
	}{
		{0, "< > * < m : int ; n : int ; .. >", 0, "< v : int > * < m : int ; .. >", true, false}, {1, "'a -> < > * < m : 'a ; .. >", 0, "< > * < m : unit >", true, true}, {0, "< > * < m : int >", 0, "< > * < m : bool >", false, false},
		{0, "< > * (< m : 'a ; n : int ; .. > as 'a)", 0, "< > * (< m : 'a ; .. > as 'a)", true, false}, {0, "< > * (< m : 'a -> int ; n : int ; .. > as 'a)", 0, "< > * (< m : 'a -> int ; .. > as 'a)", false, false}, {2, "int -> int -> < > * < >", 0, "< > * < .. >", true, true},
	} {
		k, l := kind(t, c.p, c.g, ""), kind(t, c.q, c.h, "")
		is, e := class.Stands(k, l)
		back, e2 := class.Stands(l, k)
		if e != api.OK || e2 != api.OK || is != c.is || back != c.back {
			t.Error(c, is, back, e, e2)
		}
	}
}

// P17.1 to P17.3: errors.
func TestErrors(t *testing.T) {
	ok, lacks := kind(t, 0, "< > * < m : int >", ""), kind(t, 0, "< > * < m : int >", "m")
	bad, long := env.Class{}, env.Class{G: api.Graph{N: make([]api.Node, api.MaxNodes+1)}}
	worse := ok
	worse.Concrete = nil
	deep := kind(t, 0, "< > * < m : "+strings.Repeat("int -> ", 150)+"int >", "")
	n := len(deep.G.N)
	for range 100 {
		deep.G.N = append(deep.G.N, api.Node{Kind: api.NObj, Labels: []string{"m"}, Args: []int{n - 1}})
		n++
	}
	deep.G.N[slices.IndexFunc(deep.G.N, func(x api.Node) bool { return len(x.Labels) == 1 })].Args[0] = n - 1
	for i, c := range []struct {
		name string
		c    env.Class
		want api.Errno
	}{{"c", ok, api.OK}, {"", bad, api.ErrArg}, {"", long, api.ErrLong}, {"c", worse, api.ErrArg}, {"", ok, api.ErrArg}, {"let", ok, api.ErrArg}, {"", deep, api.ErrArg}} {
		if s, e := class.Text(c.name, c.c); e != c.want || (s == "") != (e != api.OK) {
			t.Error(i, s, e)
		}
	}
	many := kind(t, 0, "< > * < m : int >", "")
	at := len(many.G.N)
	for i := range api.MaxDeep {
		many.G.N = append(many.G.N, api.Node{Kind: api.NCon, Name: "->", Args: []int{2, at + i + 1}})
	}
	many.G.N = append(many.G.N, api.Node{Kind: api.NCon, Name: "int"})
	many.G.N[many.G.N[many.G.Root].Args[1]].Args[0] = at
	many.G.N[2] = api.Node{Kind: api.NObj, Labels: []string{"m"}, Args: []int{at}}
	if s, e := class.Text("c", many); e != api.ErrDeep || s != "" {
		t.Error(s, e)
	}
	for i, c := range []struct {
		c, d env.Class
		want api.Errno
	}{{bad, long, api.ErrArg}, {long, bad, api.ErrLong}, {lacks, bad, api.ErrArg}, {lacks, long, api.ErrLong}, {lacks, ok, api.ErrType}, {ok, lacks, api.ErrType}, {worse, lacks, api.ErrArg}} {
		if is, e := class.Stands(c.c, c.d); is || e != c.want {
			t.Error(i, e)
		}
		if _, e := class.Maker(c.c); e != c.want && i < 2 {
			t.Error(i, e)
		}
		if _, e := class.Method(c.c, "m"); e != c.want && i < 2 {
			t.Error(i, e)
		}
	}
}

// P17.4: Maker is what new makes, as a function of its parameters.
func TestLaws(t *testing.T) {
	for _, text := range []string{"'x -> < v : 'x > * < get : 'x ; .. >", "(< m : int ; .. > as 's) -> < v : 's > * 's"} {
		k := kind(t, 1, text, "")
		g, _ := class.Maker(k)
		object := api.Graph{N: g.N, Root: g.N[g.Root].Args[1]}
		if object.N[object.Root].Open || graph.Check(g) != api.OK || inst.Closed(k.G) {
			t.Error(text)
		}
		if is, e := class.Stands(k, k); !is || e != api.OK {
			t.Error(text, e)
		}
	}
}
