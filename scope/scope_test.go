package scope_test

import (
	"strings"
	"testing"

	"trefoil/api"
	"trefoil/env"
	"trefoil/load"
	"trefoil/parse"
	"trefoil/scope"
)

// world is an Env with some values and classes.
func world(t *testing.T) *env.Env {
	e := env.New()
	var no api.Errno
	for _, s := range []string{"x", "y", "c", "v"} {
		g, _ := load.Read("int")
		if e, no = e.WithValue(s, g); no != api.OK {
			t.Fatal(no)
		}
	}
	for _, c := range []struct {
		name, text string
		has, lacks []string
	}{{"c", "< > * < >", nil, nil}, {"d", "< a : int ; b : int > * < m : int ; n : int ; .. >", []string{"m"}, []string{"n"}}, {"e", "< b : int > * < k : int ; .. >", []string{"k"}, nil}} {
		g, _ := load.Read(c.text)
		if e, no = e.WithClass(c.name, env.Class{G: g, Concrete: c.has, Virtual: c.lacks}); no != api.OK {
			t.Fatal(c, no)
		}
	}
	return e
}

// P15.1: names that aren't there; "" of a phrase that has none.
func TestCheck(t *testing.T) {
	e := world(t)
	for _, c := range [][2]string{
		{"x", ""}, {"z", "z"}, {"fst snd not", ""}, {"fun z -> z w q", "w"}, {"fun x -> y", ""}, {"z; w", "z"}, {"1 + z * w", "z"}, {"(x, z)", "z"}, {"if x then z else w", "z"}, {"(z : int)", "z"}, {"(z : 'a :> 'b)", "z"},
		{"let z = z in z", "z"}, {"let z = x in z", ""}, {"let rec z n = z n in z", ""}, {"let rec z n = w in q", "w"}, {"let z = fun w -> w in w", "w"}, {"let z = 1", ""}, {"let z = z", "z"}, {"let rec z n = z", ""}, {"let rec z n = w", "w"}, {"(fun z -> z) z", "z"},
		{"x <- 1", "x"}, {"z <- w", "z"}, {"fun z -> z <- 1", "z"}, {"fun z -> q <- 1", "q"},
		{"new c", ""}, {"new q", "q"}, {"new q z", "q"}, {"new c z", "z"}, {"new x", "x"}, {"z#m", "z"}, {"x#m", ""}, {"{< >}", "self"}, {"{< q = z >}", "q"}, {"{< x = 1 >}", "x"},
		{"object end", ""}, {"object (s) method m = s end", ""}, {"object method m = s end", "s"}, {"object (s) val w = s end", "s"}, {"object (s) inherit c s end", "s"}, {"object val w = 1 method m = w <- w end", ""}, {"object val w = 1 val u = w end", "w"}, {"object val w = 1 method m = fun w -> w <- 1 end", "w"},
		{"object (w) val w = 1 method m = w <- 1 end", "w"}, {"object (w) val w = 1 method m = w end", ""}, {"object val w = 1 method m = {< w = w >} end", ""}, {"object val w = 1 method m = {< x = w >} end", "x"}, {"object val w = 1 method m = {< w = 1 ; w = 2 >} end", "w"}, {"object val w = 1 method m = {< w = z ; w = 2 >} end", "w"},
		{"object val w = 1 method m = {< w = z >} end", "z"}, {"object val w = {< w = 1 >} end", "w"}, {"object val w = {< >} end", "self"}, {"object method m = {< >} end", ""}, {"object (w) val w = 1 method m = {< w = 2 >} end", ""}, {"object val w = 1 method m = fun w -> {< w = w >} end", ""},
		{"object inherit q z end", "q"}, {"object inherit c z end", "z"}, {"object inherit d method g = a + b end", ""}, {"object inherit d method g = a <- b end", ""}, {"object inherit d method g = {< a = 1 ; b = 2 >} end", ""}, {"object method g = a inherit d end", ""}, {"object inherit e method g = a end", "a"}, {"object inherit d val a = a end", "a"},
		{"object inherit d as p method g = p#m end", ""}, {"object inherit d as p method g = p#n end", "n"}, {"object inherit d as p method g = p#q end", "q"}, {"object inherit d as p method g = p end", "p"}, {"object inherit d as p method g = (p)#m end", ""}, {"object inherit d as p method g = p <- 1 end", "p"}, {"object inherit d as p method g = (p, 1) end", "p"},
		{"object inherit d as p method g = let p = 1 in p end", ""}, {"object inherit d as p val w = p#m end", "p"}, {"object inherit d as p inherit e as p method g = p#k end", ""}, {"object inherit d as p inherit e as p method g = p#m end", "m"}, {"object inherit e as p inherit d as p method g = p#m end", ""},
		{"object inherit d as b method g = b end", "b"}, {"object inherit d as a method g = a#m end", ""}, {"object (p) inherit d as p method g = p end", ""}, {"object (p) inherit d as p method g = p#q end", ""}, {"object inherit d as p method g = object method h = p#m end end", ""}, {"object inherit d as p method g = object val p = 1 method h = p end end", ""},
		{"object inherit d as x method g = fun x -> x end", ""}, {"object val w = 1 method m = object method n = w <- 1 end end", ""}, {"object val w = 1 method m = object method n = {< w = 1 >} end end", "w"}, {"object val w = 1 method m = object val u = {< w = 1 >} method n = w end end", ""}, {"object val w = 1 method m = object val w = w inherit c {< >} end end", ""},
		{"object val w = 1 val w = 2 end", "w"}, {"object val w = 1 val w = z end", "w"}, {"object val w = z val w = 1 end", "z"}, {"object method m = 1 method m = 2 end", "m"}, {"object method m = z method m = 2 end", "m"}, {"object method m = z val w = q end", "q"}, {"object virtual m : int method m = 1 virtual m : int end", ""}, {"object inherit d val a = 1 method m = 2 end", ""},
		{"object method m = z method n = w val u = 1 end", "z"}, {"object method m = z inherit q end", "q"}, {"object val w = 1 method w = w end", ""},
		{"class k = object end", ""}, {"class k a a = object end", "a"}, {"class k a b a = object val w = z end", "a"}, {"class k a = object inherit c a val w = a method m = a end", ""}, {"class k = object inherit k end", "k"}, {"class k = object method m = new k end", "k"}, {"class k a = object method m = a <- 1 end", "a"}, {"class k w = object (s) val w = w method m = w <- s end", ""},
		{"class k = object method m = {< >} end", ""}, {"class k = object val w = {< >} end", "self"},
	} {
		p, at, no := parse.Parse(c[0])
		if no != api.OK {
			t.Errorf("%q: %d %d", c[0], no, at)
			continue
		}
		got, no := scope.Check(e, p)
		if got != c[1] || (no == api.ErrScope) != (c[1] != "") || no != api.OK && no != api.ErrScope {
			t.Errorf("%q: %q %d", c[0], got, no)
		}
	}
}

// P15.1: the other errors, in their order.
func TestErrors(t *testing.T) {
	deep := api.Expr{Kind: api.Var, S: "zz"}
	for range api.MaxDeep {
		deep = api.Expr{Kind: api.Send, S: "m", Args: []api.Expr{deep}}
	}
	e := env.New()
	for i, c := range []struct {
		e    *env.Env
		p    api.Phrase
		want api.Errno
	}{
		{nil, api.Phrase{}, api.ErrNil}, {e, api.Phrase{}, api.ErrArg}, {e, api.Phrase{Kind: api.PExpr, E: deep}, api.ErrDeep}, {e, api.Phrase{Kind: api.PExpr, Name: "x", E: deep.Args[0]}, api.ErrArg}, {e, api.Phrase{Kind: api.PExpr, E: deep.Args[0]}, api.ErrScope},
	} {
		if s, no := scope.Check(c.e, c.p); no != c.want || (s == "zz") != (no == api.ErrScope) {
			t.Error(i, s, no)
		}
	}
}

// P15.2: names that are free.
func TestFree(t *testing.T) {
	for text, want := range map[string]string{
		"x": "x", "1": "", "x y x": "x y", "fun x -> x y": "y", "(fun x -> x) x": "x", "let x = x in x y": "x y", "let x = y in x": "y", "let rec f x = f x g in f h": "g h", "x <- y": "x y", "x <- x": "x", "fun x -> x <- y": "y", "new c x": "x", "{< v = x ; w = v >}": "x v", "x#m": "x", "if a then b else c": "a b c",
		"(a : 'b)": "a", "(a, b; c)": "a b c", "object (s) val v = v method m = v <- s w end": "v w", "object method m = q val v = r end": "r q", "object inherit c a as p method m = p#m p b end": "a b", "object inherit c p as p end": "p", "object (s) inherit c s val v = s end": "s", "object (s) method m = object (t) method n = (s, t) end end": "",
		"object method m = v end": "v", "(object val v = 1 end, v)": "v", "fun v -> object val v = v method m = v end": "", "object virtual v : int method m = v end": "v", "let f = fun x -> y in fun y -> (f, (y, x))": "y x",
	} {
		x, _, no := parse.Expr(text)
		if got := strings.Join(scope.Free(x), " "); got != want || no != api.OK {
			t.Errorf("%q: %q %d", text, got, no)
		}
	}
	if scope.Free(api.Expr{}) != nil || scope.Free(api.Expr{Kind: api.Pair, Args: []api.Expr{{Kind: api.Var, S: "x"}, {}}}) != nil {
		t.Error("what may not be")
	}
}

// P15.3: what is free is asked of the Env; a name that isn't asked changes nothing.
func TestAsked(t *testing.T) {
	e := world(t)
	g, _ := load.Read("int")
	for _, text := range []string{"x z", "fun q -> q", "object val v = x method m = v y end", "let rec f n = f z in w"} {
		x, _, _ := parse.Expr(text)
		p := api.Phrase{Kind: api.PExpr, E: x}
		f, _ := e.WithValue("notasked", g)
		s, no := scope.Check(e, p)
		s2, no2 := scope.Check(f, p)
		if s != s2 || no != no2 {
			t.Error(text)
		}
		for _, name := range scope.Free(x) {
			f, _ = f.WithValue(name, g)
		}
		if s, no := scope.Check(f, p); no != api.OK {
			t.Error(text, s)
		}
	}
}
