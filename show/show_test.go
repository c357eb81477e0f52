package show_test

import (
	"math/rand"
	"slices"
	"strings"
	"testing"

	"trefoil/api"
	"trefoil/parse"
	"trefoil/show"
	"trefoil/tree"
)

type ex = api.Expr

func mk(kind int, s string, a ...ex) ex { return ex{Kind: kind, S: s, Args: a} }
func v(s string) ex                     { return mk(api.Var, s) }

var x, y, z = v("x"), v("y"), v("z")

// P5.1: texts, which stand as they are put.
func TestExpr(t *testing.T) {
	for _, s := range []string{
		"x", "0", "9223372036854775807", "true", "false", "\"a\\n\\\"\\\\\t\"", "()", "x ; y ; z", "(x ; y) ; z", "let x = y ; z in y ; z", "let rec f = fun x -> y ; z in x", "fun x -> fun y -> x ; y",
		"if x ; y then z else x", "if x then (let x = y in z) else (if x then y else z)", "x <- y", "x <- (y <- z)", "(fun x -> x) ; (x <- y) ; fun x -> y", "(let x = y in z) ; x", "x = y", "(x = y) = (y < z)",
		"x + y - z", "x + (y - z)", "x * y / z", "x * (y * z)", "x * y + z * x", "(x + y) * z", "x + 1 < y", "(fun x -> f x) 1", "x y z", "x (y z)", "(new c) x", "(new c x) y", "new c (new d) x#m (x y)", "f (new c)",
		"x#m#n", "(x y)#m", "(new c)#m", "(x + y)#m", "(x, y)", "(x ; y, fun x -> x)", "(x : int)", "(x ; y : int -> 'a as 'b)", "(x : < m : int ; .. > :> < >)", "{< >}", "{< x = y >}", "{< x = y ; z = (fun x -> x) ; z = x = y >}",
		"{< x = (y ; z) >}", "object end", "object (s) end", "object (s) inherit c inherit c x (f y) as s val v = x ; y method m = fun x -> x virtual n : int -> int end", "object end#m", "f object end 1#m", "f (x, y) () (x : int)",
		"(if x then y else z) + 1", "1 + (x <- y)", "x <- y = z", "if x = y then x + y else x y",
	} {
		e, _, no := parse.Expr(s)
		if no != api.OK {
			t.Errorf("%q: %d", s, no)
		}
		if got, no := show.Expr(e); got != s || no != api.OK {
			t.Errorf("%q: %q %d", s, got, no)
		}
		if got, no := show.Phrase(api.Phrase{Kind: api.PExpr, E: e}); got != s || no != api.OK {
			t.Errorf("%q: phrase %q %d", s, got, no)
		}
	}
}

// P5.1: phrases.
func TestPhrase(t *testing.T) {
	for _, s := range []string{
		"let x = 1 ; y", "let rec f = fun x -> f x", "let x = let y = 1 in y", "class c = object end", "class c x y = object (s) val v = x method m = s end", "let f = fun x -> x ; x", "let rec f = fun x -> x in f",
	} {
		p, _, no := parse.Parse(s)
		if got, e := show.Phrase(p); got != s || e != api.OK || no != api.OK {
			t.Errorf("%q: %q %d", s, got, e)
		}
	}
}

// P5.1: what can't be shown.
func TestFaults(t *testing.T) {
	deep := x
	for range api.MaxDeep {
		deep = mk(api.Send, "m", deep)
	}
	for i, c := range []struct {
		e    ex
		want api.Errno
	}{{ex{}, api.ErrArg}, {deep, api.ErrDeep}, {mk(api.Pair, "", deep, ex{}), api.ErrArg}, {v("let"), api.ErrArg}} {
		if s, e := show.Expr(c.e); s != "" || e != c.want {
			t.Error(i, s, e)
		}
		if s, e := show.Phrase(api.Phrase{Kind: api.PExpr, E: c.e}); s != "" || e != c.want {
			t.Error(i, s, e)
		}
	}
	for i, p := range []api.Phrase{{}, {Kind: api.PExpr, Name: "x", E: x}, {Kind: api.PLet, E: x}, {Kind: api.PRec, Name: "f", E: x}, {Kind: api.PClass, Name: "c", E: x}} {
		if s, e := show.Phrase(p); s != "" || e != api.ErrArg {
			t.Error(i, s, e)
		}
	}
}

// P5.1: texts that are as long as they may be.
func TestLongText(t *testing.T) {
	for _, c := range []string{"x", "\n", "\"", "\\"} {
		s := strings.Repeat(c, api.MaxText)
		got, e := show.Expr(ex{Kind: api.Text, S: s})
		c = strings.ReplaceAll(strings.ReplaceAll(strings.ReplaceAll(c, "\\", "\\\\"), "\"", "\\\""), "\n", "\\n")
		if e != api.OK || got != "\""+strings.Repeat(c, api.MaxText)+"\"" {
			t.Errorf("%q: %d %d", c, len(got), e)
		}
	}
}

// random is an expression with at most so many levels.
func random(r *rand.Rand, n int) ex {
	if n == 0 {
		return []ex{x, y, z, {Kind: api.Num, N: 7}, {Kind: api.Bool, N: 1}, {Kind: api.Bool}, {Kind: api.Text, S: "\\ (* \n\""}, {Kind: api.Unit}, {Kind: api.Clone}, {Kind: api.Object}, {Kind: api.New, S: "c"}}[r.Intn(11)]
	}
	e := func() ex { return random(r, r.Intn(n)) }
	tInt := api.Type{Kind: api.TCon, S: "int"}
	arrow := api.Type{Kind: api.TAs, S: "as", Args: []api.Type{{Kind: api.TCon, S: "->", Args: []api.Type{tInt, {Kind: api.TVar, S: "a"}}}}}
	switch kind := api.Fun + r.Intn(15); kind {
	case api.Let:
		return mk(kind, "x", e(), e())
	case api.Rec:
		return mk(kind, "x", mk(api.Fun, "y", e()), e())
	case api.If:
		return mk(kind, "", e(), e(), e())
	case api.Op:
		return mk(kind, []string{"+", "-", "*", "/", "=", "<"}[r.Intn(6)], e(), e())
	case api.App, api.Pair, api.Seq:
		return mk(kind, "", e(), e())
	case api.Fun, api.Send, api.Set:
		return mk(kind, "x", e())
	case api.New:
		return mk(kind, "c", slices.Repeat([]ex{e()}, r.Intn(3))...)
	case api.Clone:
		return ex{Kind: kind, Names: []string{"x", "y"}, Args: []ex{e(), e()}}
	case api.Annot:
		return ex{Kind: kind, Types: []api.Type{arrow}, Args: []ex{e()}}
	case api.Coerce:
		return ex{Kind: kind, Types: []api.Type{arrow, tInt}, Args: []ex{e()}}
	default:
		m := []api.Member{{Kind: api.Inherit, Name: "c", Args: []ex{e(), e()}}, {Kind: api.Inherit, Name: "c", As: "p"}, {Kind: api.Val, Name: "v", Args: []ex{e()}}, {Kind: api.Method, Name: "m", Args: []ex{e()}}, {Kind: api.Virtual, Name: "m", Types: []api.Type{arrow}}}
		r.Shuffle(len(m), func(i, j int) { m[i], m[j] = m[j], m[i] })
		return ex{Kind: api.Object, S: []string{"", "s"}[r.Intn(2)], Members: m[:r.Intn(6)]}
	}
}

// P5.2: what is shown is parsed as what it was, and shown the same again.
func TestRound(t *testing.T) {
	r := rand.New(rand.NewSource(3))
	for range 5000 {
		e := random(r, 6)
		s, no := show.Expr(e)
		got, at, no2 := parse.Expr(s)
		if no != api.OK || no2 != api.OK || !tree.Same(got, e) {
			t.Fatalf("%q: %d %d at %d", s, no, no2, at)
		}
		if again, _ := show.Expr(got); again != s {
			t.Fatalf("%q: %q", s, again)
		}
		for _, p := range []api.Phrase{{Kind: api.PExpr, E: e}, {Kind: api.PLet, Name: "f", E: e}, {Kind: api.PRec, Name: "f", E: mk(api.Fun, "x", e)}, {Kind: api.PClass, Name: "c", Names: []string{"x"}, E: ex{Kind: api.Object, S: "s", Members: []api.Member{{Kind: api.Method, Name: "m", Args: []ex{e}}}}}} {
			s, _ := show.Phrase(p)
			q, at, no := parse.Parse(s)
			if no != api.OK || q.Kind != p.Kind || q.Name != p.Name || !slices.Equal(q.Names, p.Names) || !tree.Same(q.E, p.E) {
				t.Fatalf("%q: %d at %d", s, no, at)
			}
		}
	}
}
