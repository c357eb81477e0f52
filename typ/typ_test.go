package typ_test

import (
	"math/rand"
	"strings"
	"testing"

	"trefoil/api"
	"trefoil/lex"
	"trefoil/tree"
	"trefoil/typ"
)

type ty = api.Type

func con(s string, a ...ty) ty { return ty{Kind: api.TCon, S: s, Args: a} }
func tick(s string) ty         { return ty{Kind: api.TVar, S: s} }
func as(t ty, s string) ty     { return ty{Kind: api.TAs, S: s, Args: []ty{t}} }

// obj has labels of one byte each.
func obj(open bool, labels string, a ...ty) ty {
	t := ty{Kind: api.TObj, Open: open, Args: a}
	for _, c := range labels {
		t.Labels = append(t.Labels, string(c))
	}
	return t
}

var in, bo, a, b = con("int"), con("bool"), tick("a"), tick("b")

func tokens(t *testing.T, text string) []api.Token {
	l, _, e := lex.Lex(text)
	if e != api.OK {
		t.Fatalf("%q: %d", text, e)
	}
	return l
}

// table: types and their texts as Put writes them.
func table() map[string]ty {
	arrow := func(x, y ty) ty { return con("->", x, y) }
	times := func(x, y ty) ty { return con("*", x, y) }
	return map[string]ty{
		"int": in, "bool": bo, "string": con("string"), "unit": con("unit"), "'a": a, "'let": tick("let"),
		"int -> bool -> 'a": arrow(in, arrow(bo, a)), "(int -> bool) -> 'a": arrow(arrow(in, bo), a),
		"int * bool * 'a": times(in, times(bo, a)), "(int * bool) * 'a": times(times(in, bo), a),
		"int * bool -> 'a * 'b": arrow(times(in, bo), times(a, b)), "int * (bool -> 'a)": times(in, arrow(bo, a)), "(int -> bool) * 'a": times(arrow(in, bo), a),
		"int -> 'a as 'b": as(arrow(in, a), "b"), "int -> ('a as 'b)": arrow(in, as(a, "b")), "('a as 'b) -> int": arrow(as(a, "b"), in),
		"(int as 'a) * ('b as 'let)": times(as(in, "a"), as(b, "let")), "int as 'a as 'b as 'a": as(as(as(in, "a"), "b"), "a"),
		"< >": obj(false, ""), "< .. >": obj(true, ""), "< m : int >": obj(false, "m", in), "< m : int ; .. >": obj(true, "m", in),
		"< a : int -> bool ; b : (int as 'a) ; c : < .. > >": obj(false, "abc", arrow(in, bo), as(in, "a"), obj(true, "")),
		"< m : 'a > as 'a": as(obj(false, "m", a), "a"), "< m : int * bool > -> int": arrow(obj(false, "m", times(in, bo)), in),
		"int -> (int -> 'a) * bool as 'b": as(arrow(in, times(arrow(in, a), bo)), "b"),
	}
}

// P3.1, P3.2, P3.3: what is put, and read.
func TestPutAndParse(t *testing.T) {
	for text, want := range table() {
		if s, e := typ.Put(want); e != api.OK || s != text {
			t.Errorf("%q: %q %d", text, s, e)
		}
		l := tokens(t, text)
		if got, at, e := typ.Parse(l, 0); e != api.OK || at != len(l)-1 || !tree.SameType(got, want) {
			t.Errorf("%q: %v %d %d", text, got, at, e)
		}
	}
}

// P3.1: other texts, and how far a type goes.
func TestParse(t *testing.T) {
	for _, c := range []struct {
		text     string
		at, want int
		put      string
	}{
		{"((int))", 0, 5, "int"}, {"x : int = 1", 2, 3, "int"}, {"int ) int", 0, 1, "int"}, {"int 'a", 0, 1, "int"}, {"int as 'a -> int", 0, 3, "int as 'a"},
		{"int as 'a * int", 0, 3, "int as 'a"}, {"(int as 'a) -> int", 0, 7, "(int as 'a) -> int"}, {"< b : int ; a : bool >", 0, 9, "< a : bool ; b : int >"},
		{"< b : int ; a : bool ; .. > >", 0, 11, "< a : bool ; b : int ; .. >"}, {"int :> bool", 0, 1, "int"}, {"int->(bool*'a)*int", 0, 9, "int -> (bool * 'a) * int"},
		{"<int:int;bool:int>", 0, 9, "< bool : int ; int : int >"}, {"(int -> bool) as 'a", 0, 7, "int -> bool as 'a"}, {"<>", 0, 2, "< >"}, {"int method", 0, 1, "int"},
	} {
		got, at, e := typ.Parse(tokens(t, c.text), c.at)
		if s, _ := typ.Put(got); e != api.OK || at != c.want || s != c.put {
			t.Errorf("%q: %q %d %d", c.text, s, at, e)
		}
	}
}

// P3.1: what is no type, and where.
func TestParseFaults(t *testing.T) {
	for text, want := range map[string]int{
		"": 0, "x": 0, "float": 0, "3": 0, "->": 0, "int ->": 2, "int -> *": 2, "int * )": 2, "int * as": 2, "( int": 2, "( )": 1, "( int 'a )": 2,
		"int as": 2, "int as x": 2, "int as as": 2, "(int as 'a -> int)": 4, "<": 1, "< int": 2, "< int : ": 3, "< m int >": 2, "< m : int": 4, "< m : int ;": 5, "< m : int ; >": 5,
		"< .. ; m : int >": 2, "< .. ..": 2, "< ; >": 1, "< m : int as 'a >": 4, "< 'm : int >": 1, "< let : int >": 1, "< m : int , n : int >": 4,
		"< m : int ; m : bool >": 5, "< m : int ; m : bool": 5, "< m : int ; m : )": 7, "< m : int ; n : int ; m : < n : int ; n : x": 18, "< m : int ; m : < a : int ; a : int > >": 12,
		"'a 'b -> ": -1, "val": 0, "\"int\"": 0, "(* int *) in": 0,
	} {
		got, at, e := typ.Parse(tokens(t, text), 0)
		if want < 0 {
			if e != api.OK {
				t.Error(text, e)
			}
			continue
		}
		if e != api.ErrForm || at != want || !tree.SameType(got, ty{}) {
			t.Errorf("%q: %v %d %d", text, got, at, e)
		}
	}
}

// P3.1: lists that no text has.
func TestParseArguments(t *testing.T) {
	end := api.Token{}
	in := api.Token{Kind: api.Name, S: "int"}
	for i, c := range []struct {
		l      []api.Token
		at     int
		want   api.Errno
		behind int
	}{
		{nil, 0, api.ErrArg, 0}, {[]api.Token{end}, -1, api.ErrArg, 0}, {[]api.Token{end}, 1, api.ErrArg, 0}, {[]api.Token{end}, 0, api.ErrForm, 0},
		{[]api.Token{in}, 0, api.ErrArg, 0}, {[]api.Token{in, end, end}, 0, api.ErrArg, 0}, {[]api.Token{end, in, end}, 1, api.ErrArg, 0}, {[]api.Token{in, end}, 0, api.OK, 1},
		{[]api.Token{in, in, {Kind: api.Tick, S: "A"}, end}, 2, api.ErrForm, 2}, {[]api.Token{{Kind: api.Tick}, end}, 0, api.ErrForm, 0},
		{[]api.Token{in, {Kind: api.Sym, S: "<"}, {Kind: api.Name, S: "let"}, {Kind: api.Sym, S: ":"}, in, {Kind: api.Sym, S: ">"}, end}, 1, api.ErrForm, 1},
		{[]api.Token{{Kind: 99, S: "int"}, end}, 0, api.ErrForm, 0}, {[]api.Token{{Kind: api.Key, S: "int"}, end}, 0, api.ErrForm, 0}, {[]api.Token{in, end}, 1 << 40, api.ErrArg, 0},
	} {
		if _, at, e := typ.Parse(c.l, c.at); e != c.want || at != c.behind {
			t.Error(i, at, e)
		}
	}
}

// P3.1: depth.
func TestParseDeep(t *testing.T) {
	arrows := strings.Repeat("int -> ", api.MaxDeep-1) + "int"
	for _, c := range []struct {
		text string
		want api.Errno
	}{
		{arrows, api.OK}, {"int -> " + arrows, api.ErrDeep}, {strings.Repeat("(", 20000) + "int" + strings.Repeat(")", 20000), api.OK},
		{"int" + strings.Repeat(" as 'a", api.MaxDeep), api.ErrDeep}, {strings.Repeat("int * ", 300), api.ErrForm},
	} {
		l := tokens(t, c.text)
		if _, at, e := typ.Parse(l, 0); e != c.want || e == api.ErrDeep && at != 0 {
			t.Errorf("%.20q: %d %d", c.text, at, e)
		}
	}
	l := make([]api.Token, 2000001)
	for i := range l[1:] {
		l[i] = api.Token{Kind: api.Sym, S: "("}
	}
	if _, at, e := typ.Parse(l, 1); e != api.ErrForm || at != len(l)-1 {
		t.Error(at, e)
	}
	x := tokens(t, "( "+strings.Repeat("int -> ", 300)+"int")
	if _, at, e := typ.Parse(x, 1); e != api.ErrDeep || at != 1 {
		t.Error(at, e)
	}
}

// P3.2: what can't be put.
func TestPutFaults(t *testing.T) {
	deep := in
	for range api.MaxDeep {
		deep = as(deep, "a")
	}
	for i, c := range []struct {
		t    ty
		want api.Errno
	}{{ty{}, api.ErrArg}, {con("->", in), api.ErrArg}, {deep, api.ErrDeep}, {con("*", deep, ty{}), api.ErrArg}} {
		if s, e := typ.Put(c.t); s != "" || e != c.want {
			t.Error(i, s, e)
		}
	}
}

// random is a type with at most so many levels.
func random(r *rand.Rand, n int) ty {
	if n == 0 {
		return []ty{in, bo, con("string"), con("unit"), a, b, tick("in"), obj(false, ""), obj(true, "")}[r.Intn(9)]
	}
	x := func() ty { return random(r, r.Intn(n)) }
	switch r.Intn(5) {
	case 0:
		return con("->", x(), x())
	case 1:
		return con("*", x(), x())
	case 2:
		return as(x(), "c")
	case 3:
		return obj(r.Intn(2) == 0, "amz", x(), x(), x())
	}
	return obj(r.Intn(2) == 0, "m", x())
}

// P3.3: what is put is parsed as that type.
func TestRound(t *testing.T) {
	r := rand.New(rand.NewSource(2))
	for range 3000 {
		x := random(r, 5)
		s, e := typ.Put(x)
		l := tokens(t, s)
		got, at, e2 := typ.Parse(l, 0)
		if e != api.OK || e2 != api.OK || at != len(l)-1 || !tree.SameType(got, x) {
			t.Fatalf("%q %d %d", s, e, e2)
		}
	}
}
