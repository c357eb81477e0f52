package parse_test

import (
	"strings"
	"testing"

	"trefoil/api"
	"trefoil/parse"
	"trefoil/tree"
)

type ex = api.Expr

func v(s string) ex                     { return ex{Kind: api.Var, S: s} }
func num(n int64) ex                    { return ex{Kind: api.Num, N: n} }
func mk(kind int, s string, a ...ex) ex { return ex{Kind: kind, S: s, Args: a} }
func app(f ex, a ...ex) ex {
	for _, x := range a {
		f = mk(api.App, "", f, x)
	}
	return f
}
func op(s string, a, b ex) ex { return mk(api.Op, s, a, b) }
func obj(s string, m ...api.Member) ex {
	return ex{Kind: api.Object, S: s, Members: m}
}
func mem(kind int, name, as string, a ...ex) api.Member {
	return api.Member{Kind: kind, Name: name, As: as, Args: a}
}

var (
	x, y, z = v("x"), v("y"), v("z")
	tInt    = api.Type{Kind: api.TCon, S: "int"}
	tBool   = api.Type{Kind: api.TCon, S: "bool"}
)

// table: texts and the expressions that they are.
func table() map[string]ex {
	fun := func(s string, e ex) ex { return mk(api.Fun, s, e) }
	seq := func(a, b ex) ex { return mk(api.Seq, "", a, b) }
	iff := func(a, b, c ex) ex { return mk(api.If, "", a, b, c) }
	set := func(s string, e ex) ex { return mk(api.Set, s, e) }
	send := func(e ex, s string) ex { return mk(api.Send, s, e) }
	pair := mk(api.Pair, "", x, seq(y, z))
	let := mk(api.Let, "f", fun("x", fun("y", x)), seq(x, y))
	return map[string]ex{
		"x": x, "007": num(7), "\"a\\nb\"": {Kind: api.Text, S: "a\nb"}, "true": {Kind: api.Bool, N: 1}, "false": {Kind: api.Bool}, "()": {Kind: api.Unit}, "( )": {Kind: api.Unit},
		"(((x)))": x, "x;y;z": seq(x, seq(y, z)), "(x;y);z": seq(seq(x, y), z),
		"let f x y = x in x;y": let, "(let f x y = x in x); y": seq(mk(api.Let, "f", fun("x", fun("y", x)), x), y),
		"let x = x;y in z": mk(api.Let, "x", seq(x, y), z), "let rec f = fun x -> x in f": mk(api.Rec, "f", fun("x", x), v("f")), "let rec f x = x in f": mk(api.Rec, "f", fun("x", x), v("f")),
		"let rec f = (fun x -> x) in f": mk(api.Rec, "f", fun("x", x), v("f")),
		"fun x y -> x; y":               fun("x", fun("y", seq(x, y))), "x; fun x -> y; z": seq(x, fun("x", seq(y, z))),
		"if x then y else z": iff(x, y, z), "if x;y then y else z;z": seq(iff(seq(x, y), y, z), z), "if x then if x then y else z else fun x -> y": iff(x, iff(x, y, z), fun("x", y)),
		"x <- y; z": seq(set("x", y), z), "x <- y <- z": set("x", set("y", z)), "x <- if x then y else z": set("x", iff(x, y, z)),
		"x = y": op("=", x, y), "x < y + z": op("<", x, op("+", y, z)), "x + y = z - x": op("=", op("+", x, y), op("-", z, x)),
		"x - y - z": op("-", op("-", x, y), z), "x - y * z / x": op("-", x, op("/", op("*", y, z), x)), "x * y + z": op("+", op("*", x, y), z), "x*(y+z)": op("*", x, op("+", y, z)),
		"(x = y) = z": op("=", op("=", x, y), z), "x <y": op("<", x, y), "x < -1": {},
		"x y z": app(x, y, z), "x (y z)": app(x, app(y, z)), "x 1 \"\" true () (y)": app(x, num(1), ex{Kind: api.Text}, ex{Kind: api.Bool, N: 1}, ex{Kind: api.Unit}, y),
		"x#m#n y#m": app(send(send(x, "m"), "n"), send(y, "m")), "(x y)#m": send(app(x, y), "m"), "1#m + 2": op("+", send(num(1), "m"), num(2)),
		"new c": mk(api.New, "c"), "new c x#m 1": mk(api.New, "c", send(x, "m"), num(1)), "new c x + 1": op("+", mk(api.New, "c", x), num(1)), "(new c x) y": app(mk(api.New, "c", x), y),
		"(x, y; z)": pair, "(x, (y; z))": pair, "((x, y), z)": mk(api.Pair, "", mk(api.Pair, "", x, y), z),
		"(x : int)": {Kind: api.Annot, Types: []api.Type{tInt}, Args: []ex{x}}, "(x;y : int :> bool)": {Kind: api.Coerce, Types: []api.Type{tInt, tBool}, Args: []ex{seq(x, y)}},
		"{<>}": {Kind: api.Clone}, "{< x = y >}": {Kind: api.Clone, Names: []string{"x"}, Args: []ex{y}},
		"{<x = fun y -> y; x = z>}":    {Kind: api.Clone, Names: []string{"x"}, Args: []ex{fun("y", seq(y, op("=", x, z)))}},
		"{< x = y < z ; x = x <- y >}": {Kind: api.Clone, Names: []string{"x", "x"}, Args: []ex{op("<", y, z), set("x", y)}},
		"object end":                   obj(""),
		"object (s) end#m":             send(obj("s"), "m"),
		"x object end {<>}":            app(x, obj(""), ex{Kind: api.Clone}),
		"object inherit c inherit c x 1 as p val v = x;y method m = x method n x y = z virtual m : int -> int virtual n : int end": obj("", mem(api.Inherit, "c", ""), mem(api.Inherit, "c", "p", x, num(1)), mem(api.Val, "v", "", seq(x, y)),
			mem(api.Method, "m", "", x), mem(api.Method, "n", "", fun("x", fun("y", z))),
			api.Member{Kind: api.Virtual, Name: "m", Types: []api.Type{{Kind: api.TCon, S: "->", Args: []api.Type{tInt, tInt}}}}, api.Member{Kind: api.Virtual, Name: "n", Types: []api.Type{tInt}}),
	}
}

// P4.1: expressions, and phrases that are expressions.
func TestExpr(t *testing.T) {
	for text, want := range table() {
		if want.Kind == 0 {
			continue
		}
		e, at, no := parse.Expr(text)
		if no != api.OK || at != 0 || !tree.Same(e, want) {
			t.Errorf("%q: %v %d %d", text, e, at, no)
		}
		p, at, no := parse.Parse(text)
		if no != api.OK || at != 0 || p.Kind != api.PExpr || p.Name != "" || !tree.Same(p.E, want) || parse.Check(p) != api.OK {
			t.Errorf("%q: %v %d %d", text, p, at, no)
		}
	}
}

// P4.3: notes, blanks and brackets change nothing.
func TestBlanks(t *testing.T) {
	for text, want := range table() {
		if want.Kind == 0 {
			continue
		}
		for _, s := range []string{" \t\r\n" + text + " ", "(* let *)" + text + "(**)", "(" + text + ")", "( (\n" + text + ") )"} {
			if e, _, no := parse.Expr(s); no != api.OK || !tree.Same(e, want) {
				t.Errorf("%q: %v %d", s, e, no)
			}
		}
	}
}

// P4.1: phrases.
func TestParse(t *testing.T) {
	fun := mk(api.Fun, "x", mk(api.Send, "m", x))
	for text, want := range map[string]api.Phrase{
		"let f x = x#m":                            {Kind: api.PLet, Name: "f", E: fun},
		"let f = 1; 2":                             {Kind: api.PLet, Name: "f", E: mk(api.Seq, "", num(1), num(2))},
		"let rec f x = x#m":                        {Kind: api.PRec, Name: "f", E: fun},
		"let rec f = fun x->x#m":                   {Kind: api.PRec, Name: "f", E: fun},
		"let f = let f x = x#m in f":               {Kind: api.PLet, Name: "f", E: mk(api.Let, "f", fun, v("f"))},
		"let f x = x#m in f; f":                    {Kind: api.PExpr, E: mk(api.Let, "f", fun, mk(api.Seq, "", v("f"), v("f")))},
		"class c = object end":                     {Kind: api.PClass, Name: "c", E: obj("")},
		"class c x y x = object (s) val v = x end": {Kind: api.PClass, Name: "c", Names: []string{"x", "y", "x"}, E: obj("s", mem(api.Val, "v", "", x))},
	} {
		p, at, e := parse.Parse(text)
		if e != api.OK || at != 0 || p.Kind != want.Kind || p.Name != want.Name || strings.Join(p.Names, " ") != strings.Join(want.Names, " ") || !tree.Same(p.E, want.E) {
			t.Errorf("%q: %v %d %d", text, p, at, e)
		}
		if parse.Check(p) != api.OK {
			t.Errorf("%q: Check", text)
		}
	}
	for s, want := range map[string]int{"let f x = x": 11, "class c = object end": 0, "let rec f x = x": 15} {
		if _, at, e := parse.Expr(s); e != api.ErrForm || at != want {
			t.Error(s, at, e)
		}
	}
}

// P4.1: what is no phrase, and where.
func TestParseFaults(t *testing.T) {
	for text, want := range map[string]int{
		"": 0, "let f x = x#m ;;": 15, "let x": 5, "let": 3, "let 5": 4, "let rec = 1": 8, "let x = 1 in": 12, "let f = in": 8, "let rec f = 1": 8, "let rec f = 1 in f": 8, "let rec f = 1 +": 15,
		"x (let rec f = 1 in f)": 11, "let rec f = (fun x -> x : int -> int)": 8, "let rec f = (1": 14,
		"fun -> x": 4, "fun x x": 7, "fun x = x": 6, "if x then y": 11, "if x else y": 5, "if x then y; z else z": 11, "x <-": 4, "f x <- y": 4, "x#m <- y": 4, "1 <- 2": 2,
		"x = y = z": 6, "x < y = z": 6, "x + * y": 4, "+ x": 0, "- 1": 0, "x -": 3, "x + fun y -> y": 4, "x let": 2, "x if y": 2, "f new c": 2, "new": 3, "new 1": 4, "new (c)": 4, "x#1": 2, "x#": 2,
		"(": 1, "(x": 2, "(x,": 3, "(x, y, z)": 5, "(x y": 4, "()x)": 3, "(,)": 1, "(x :)": 4, "(x : foo)": 5, "(x : int": 8, "(x : int as)": 11, "(x : int :> )": 12, "(x :> int)": 3, "(x : int : int)": 9, "(x, y : int)": 6,
		"(x : < m : int ; m : int >)": 17, "x 'a": 2, "{<": 2, "{< x >}": 5, "{< x = y": 8, "{< x = y ; >}": 11, "{< x = y, >}": 8, "{< 1 = y >}": 3, "{< x = >}": 7,
		"object": 6, "object x end": 7, "object ( end": 9, "object (s end": 10, "object () end": 8, "object val end": 11, "object val v end": 13, "object val v = end": 15, "object method m end": 16, "object method = x end": 14,
		"object inherit end": 15, "object inherit c as end": 20, "object inherit c + 1 end": 17, "object virtual m = int end": 17, "object virtual m : x end": 19, "object virtual end": 15, "object val v x = y end": 13,
		"class": 5, "class c": 7, "class c = x": 10, "class c = object end x": 21, "class = object end": 6, "class c = object end; x": 20, "class c = (object end)": 10, "x; ": 3, "; x": 0, "end": 0, "x end": 2, "let x = y let": 10, "rec": 0, "x class": 2,
		"x < -1": 4, "val x = 1": 0, "(* x *)": 7, "let x = 1 and y = 2": 10,
	} {
		p, at, e := parse.Parse(text)
		if e != api.ErrForm || at != want || !tree.Same(p.E, ex{}) || p.Kind != 0 {
			t.Errorf("%q: %v %d %d", text, p, at, e)
		}
	}
	for text, want := range map[string]int{"x ?": 2, "let x = 'A": 8, "(* ": 0, "let ) \"": 6} {
		if _, at, e := parse.Parse(text); e != api.ErrLex || at != want {
			t.Errorf("%q: %d %d", text, at, e)
		}
		if _, at, e := parse.Expr(text); e != api.ErrLex || at != want {
			t.Errorf("%q: %d %d", text, at, e)
		}
	}
	if _, at, e := parse.Parse(strings.Repeat("(", api.MaxText+1)); at != 0 || e != api.ErrLong {
		t.Error("long", at, e)
	}
}

// P4.1: depth.
func TestDeep(t *testing.T) {
	n := strings.Repeat
	wide := "(x : " + n("int -> ", api.MaxDeep) + "int)"
	for _, c := range []struct {
		text string
		at   int
		want api.Errno
	}{
		{n("(", 32767) + "x" + n(")", 32767), 0, api.OK}, {n("(", 65536), 65536, api.ErrForm}, {n("f (", 20000), 60000, api.ErrForm}, {n("{<x=", 16000), 64000, api.ErrForm},
		{n("object method m = ", 3000), 54000, api.ErrForm}, {n("if ", 20000), 60000, api.ErrForm}, {n("x<-", 20000), 60000, api.ErrForm},
		{"x" + n("#m", api.MaxDeep-1), 0, api.OK}, {"x" + n("#m", api.MaxDeep), 0, api.ErrDeep}, {"x" + n("#m", api.MaxDeep) + " )", 402, api.ErrForm}, {n("x;", 30000) + "x", 0, api.ErrDeep},
		{n("fun x -> ", 7000) + "x", 0, api.ErrDeep}, {"let f " + n("x ", api.MaxDeep-1) + "= x", 0, api.OK}, {"let f " + n("x ", api.MaxDeep) + "= x", 0, api.ErrDeep},
		{wide, 0, api.ErrDeep}, {wide + " )", 0, api.ErrDeep}, {") " + wide, 0, api.ErrForm}, {"class c = object virtual m : " + wide[5:len(wide)-1] + " )", 0, api.ErrDeep}, {"(x : int :> " + wide[5:] + ")", 0, api.ErrDeep},
		{"(x : " + n("int -> ", api.MaxDeep-1) + "int)", 0, api.OK}, {"object method m = x" + n("#m", api.MaxDeep-3) + " end", 0, api.OK}, {"object method m = x" + n("#m", api.MaxDeep-2) + " end", 0, api.ErrDeep},
	} {
		if _, at, e := parse.Parse(c.text); e != c.want || at != c.at {
			t.Errorf("%.30q: %d %d", c.text, at, e)
		}
	}
}

// P4.2: which phrases may be.
func TestCheck(t *testing.T) {
	fun := mk(api.Fun, "x", x)
	deep := x
	for range api.MaxDeep {
		deep = mk(api.Send, "m", deep)
	}
	for i, c := range []struct {
		p    api.Phrase
		want api.Errno
	}{
		{api.Phrase{}, api.ErrArg}, {api.Phrase{Kind: api.PExpr, E: x, Names: []string{}}, api.OK}, {api.Phrase{Kind: api.PExpr}, api.ErrArg}, {api.Phrase{Kind: api.PExpr, E: x, Name: "x"}, api.ErrArg},
		{api.Phrase{Kind: api.PExpr, E: x, Names: []string{"x"}}, api.ErrArg}, {api.Phrase{Kind: 5, E: x}, api.ErrArg}, {api.Phrase{Kind: 0, E: deep}, api.ErrDeep}, {api.Phrase{Kind: api.PExpr, E: deep, Name: "let"}, api.ErrDeep},
		{api.Phrase{Kind: api.PLet, Name: "x", E: x}, api.OK}, {api.Phrase{Kind: api.PLet, E: x}, api.ErrArg}, {api.Phrase{Kind: api.PLet, Name: "let", E: x}, api.ErrArg}, {api.Phrase{Kind: api.PLet, Name: "x", E: x, Names: []string{"x"}}, api.ErrArg},
		{api.Phrase{Kind: api.PRec, Name: "x", E: fun}, api.OK}, {api.Phrase{Kind: api.PRec, Name: "x", E: x}, api.ErrArg}, {api.Phrase{Kind: api.PRec, Name: "X", E: fun}, api.ErrArg}, {api.Phrase{Kind: api.PRec, Name: "x", E: fun, Names: []string{"y"}}, api.ErrArg},
		{api.Phrase{Kind: api.PClass, Name: "c", E: obj("")}, api.OK}, {api.Phrase{Kind: api.PClass, Name: "c", E: obj(""), Names: []string{"x", "x"}}, api.OK}, {api.Phrase{Kind: api.PClass, Name: "c", E: x}, api.ErrArg},
		{api.Phrase{Kind: api.PClass, E: obj("")}, api.ErrArg}, {api.Phrase{Kind: api.PClass, Name: "c", E: obj(""), Names: []string{"x", ""}}, api.ErrArg}, {api.Phrase{Kind: api.PClass, Name: "c", E: obj("S")}, api.ErrArg},
	} {
		if got := parse.Check(c.p); got != c.want {
			t.Error(i, got)
		}
	}
}
