package infer_test

import (
	"math/rand"
	"slices"
	"strings"
	"testing"

	"trefoil/api"
	"trefoil/canon"
	"trefoil/env"
	"trefoil/graph"
	"trefoil/infer"
	"trefoil/inst"
	"trefoil/load"
	"trefoil/name"
	"trefoil/parse"
	"trefoil/tree"
)

const much = 100000

func expr(t *testing.T, text string) api.Expr {
	x, at, no := parse.Expr(text)
	if no != api.OK {
		t.Fatalf("%q: %d at %d", text, no, at)
	}
	return x
}

func phrase(t *testing.T, text string) api.Phrase {
	p, at, no := parse.Parse(text)
	if no != api.OK {
		t.Fatalf("%q: %d at %d", text, no, at)
	}
	return p
}

// told is a type's text, or an error's word.
func told(g api.Graph, no api.Errno) string {
	switch no {
	case api.OK:
		s, _ := name.Put(g)
		return s
	case api.ErrType:
		return "type"
	case api.ErrBudget:
		return "budget"
	}
	return "error"
}

// world is an Env of phrases, one behind the other.
func world(t *testing.T, l ...string) *env.Env {
	e := env.New()
	for _, s := range l {
		p := phrase(t, s)
		var no api.Errno
		if p.Kind == api.PClass {
			var c env.Class
			if c, no = infer.Class(e, p, much); no == api.OK {
				e, no = e.WithClass(p.Name, c)
			}
		} else {
			var g api.Graph
			if g, no = infer.Bind(e, p, much); no == api.OK {
				e, no = e.WithValue(p.Name, g)
			}
		}
		if no != api.OK {
			t.Fatalf("%q: %d", s, no)
		}
	}
	return e
}

func classes(t *testing.T) *env.Env {
	return world(t, "class c x = object val v = x method get = v method set y = v <- y end", "class d = object inherit c true as p method get = not p#get end",
		"class point x = object (s) val x = x method x = x method move d = {< x = x + d >} method eq o = x = o#x end", "class abs = object (s) virtual m : int method n = s#m + 1 end",
		"class two a b = object val l = a val r = b method l = l method r = r end", "class me = object (s) method me = s method app f = f s end", "let id x = x", "let pair = (id, id)", "class open = object method m = object (q) method r = q end end")
}

// P16.2: types.
func TestType(t *testing.T) {
	e := classes(t)
	for text, want := range map[string]string{
		"1": "int", "true": "bool", "\"\"": "string", "()": "unit", "fun x -> x": "'a -> 'a", "fun x -> x#m": "< m : 'a ; .. > -> 'a", "fun x -> x x": "'a -> 'b as 'a", "fst": "'a * 'b -> 'a", "(fst, snd)": "('a * 'b -> 'a) * ('c * 'd -> 'd)",
		"object (s) method m = s end": "< m : 'a > as 'a", "fun f x -> f x": "('a -> 'b) -> 'a -> 'b", "fun x y -> (y, x)": "'a -> 'b -> 'b * 'a", "(fun x -> x) 1": "int", "1 2": "type", "1 + true": "type", "true + 1": "type", "1 < 2": "bool", "1 = 2": "bool", "() = ()": "type", "1 * 2 / 3 - 4": "int",
		"if true then 1 else 2": "int", "if 1 then 1 else 2": "type", "if true then 1 else ()": "type", "fun x y z -> if x then y else z": "bool -> 'a -> 'a -> 'a", "(); 1": "int", "1; 1": "type", "fun x -> x; x": "unit -> unit", "fun x -> (x + 1, x)": "int -> int * int",
		"let f = fun x -> x in (f 1, f true)": "int * bool", "(fun f -> (f 1, f true)) (fun x -> x)": "type", "fun y -> let f = fun x -> y in (f 1, f true)": "'a -> 'a * 'a", "fun y -> let f = y in (f 1, f true)": "type", "let f = id id in (f 1, f true)": "type", "let f = id id in f 1": "int", "let f = id id in f": "'a -> 'a",
		"let p = (id, fun x -> x) in ((fst p) 1, (fst p) true)": "int * bool", "let f = (id : 'a -> 'a) in (f 1, f ())": "int * unit", "let f = (id : int -> 'a) in f true": "type", "fun y -> let f = fun x -> (x, y) in (f 1, (f true, f y))": "'a -> (int * 'a) * (bool * 'a) * ('a * 'a)",
		"let rec f x = f x in f": "'a -> 'b", "let rec f n = if n < 1 then 1 else n * f (n - 1) in f": "int -> int", "let rec f x = f in f": "'a -> 'b as 'b", "let rec f x = f 1 in f true": "type", "let rec f x = x in (f 1, f true)": "int * bool", "let rec f x = let g = f in x in (f 1, f ())": "int * unit",
		"let x = fun y -> y in let z = x in (z 1, z true)": "int * bool", "fun x -> let y = x#m in y": "< m : 'a ; .. > -> 'a", "fun x -> let f = fun y -> x#m y in (f 1, f 2)": "< m : int -> 'a ; .. > -> 'a * 'a", "fun x -> let f = fun y -> x#m y in (f 1, f true)": "type",
		"fun x -> (x#m, x#n)": "< m : 'a ; n : 'b ; .. > -> 'a * 'b", "fun x -> (x#m + 1, x#m)": "< m : int ; .. > -> int * int", "fun x y -> if true then x#m else y#m": "< m : 'a ; .. > -> < m : 'a ; .. > -> 'a", "fun x y -> if true then x else (y#m; y)": "(< m : unit ; .. > as 'a) -> 'a -> 'a", "fun x -> x#m x": "(< m : 'a -> 'b ; .. > as 'a) -> 'b", "1#m": "type", "fun x -> x + x#m": "type",
		"(fun x -> 1 : 'a -> 'b)": "'a -> int", "(fun x -> x : int -> 'b)": "int -> int", "(fun x -> x#m : < m : 'a ; n : 'b ; .. > -> 'c)": "< m : 'a ; n : 'b ; .. > -> 'a", "(fun x -> x#m : < m : 'a ; n : 'b > -> 'c)": "< m : 'a ; n : 'b > -> 'a", "(fun x -> x#m : < > -> 'a)": "type", "(1 : 'a as 'a)": "type", "(1 : (int as 'a) * (int as 'a))": "type", "(1 : bool)": "type", "((1 : 'a), (true : 'a))": "int * bool", "fun x -> (x : 'a as 'b)": "'a -> 'a",
		"(fun x -> x : (int -> 'a) as 'a)": "type", "(fun x -> x : 'a -> 'a as 'a)": "'a -> 'a as 'a", "fun x -> (x : 'a -> int as 'a)": "('a -> int as 'a) -> 'a",
		"object end": "< >", "object method a = 1 method b = true end": "< a : int ; b : bool >", "(object method a = 1 method b = 2 end : < a : int ; b : int > :> < a : int >)": "< a : int >", "(object method a = 1 end : < a : int ; .. > :> < >)": "type", "(object method a = 1 end : < a : int > :> < a : bool >)": "type", "(object method a = 1 end : < a : 'a > :> < >)": "type",
		"(object method a = 1 method b = 2 end : < a : int > :> < >)": "type", "(1 : int :> int)": "int", "((fun x -> 1) : < > -> int :> < m : int > -> int)": "< m : int > -> int", "(1 : 'a as 'a :> int)": "type", "(1 : int :> ('a as 'a))": "type", "(fun x -> x : < m : 'a > as 'a :> < >)": "type",
		"object (s) method a = s#b method b = 1 end": "< a : int ; b : int >", "object (s) method a = s#c end": "type", "object virtual m : int end": "type", "object virtual m : int method m = 1 end": "< m : int >", "object virtual m : int method m = true end": "type", "object method m = 1 virtual m : 'a end": "< m : int >",
		"object val v = 1 method m = v method n = v <- 2 end": "< m : int ; n : unit >", "object val v = 1 method n = v <- true end": "type", "object val v = id method m = v 1 method n = v true end": "type", "fun x -> object val v = x method m = v end": "'a -> < m : 'a >", "object method m x = x end": "< m : 'a -> 'a >",
		"(fun o -> (o#m 1, o#m true)) object method m x = x end": "type", "object (s) method m = {< >} end": "< m : 'a > as 'a", "object (s) val v = 1 method m = {< v = 2 >} method n = v end": "< m : 'a ; n : int > as 'a", "object val v = 1 method m = {< v = () >} end": "type", "object (s) method a x = s#b x method b y = y + 1 end": "< a : int -> int ; b : int -> int >",
		"object (s) method m = let f = fun x -> s in (f 1, f true) end": "< m : 'a * 'a > as 'a", "object (s) method id x = x method t = (s#id 1, s#id true) end": "type", "fun f -> object (s) method m = f s end": "((< m : 'a > as 'b) -> 'a) -> 'b", "fun f -> (object (s) method m = f s end, f object method m = 1 method n = 2 end)": "type",
		"new c": "type", "new c 1": "< get : int ; set : int -> unit >", "new c 1 2": "type", "new c id": "< get : 'a -> 'a ; set : ('a -> 'a) -> unit > ", "(new c 1)#get + 1": "int", "(new d)#get": "bool", "new d": "< get : bool ; set : bool -> unit >", "new abs": "type", "fun x -> new c x": "'a -> < get : 'a ; set : 'a -> unit >",
		"new point 1": "< eq : < x : int ; .. > -> bool ; move : int -> 'a ; x : int > as 'a", "new me": "< app : ('a -> 'b) -> 'b ; me : 'a > as 'a", "object inherit abs method m = 1 end": "< m : int ; n : int >", "object inherit abs end": "type", "object inherit abs method m = true end": "type", "object inherit c end": "type", "object inherit c 1 2 end": "type",
		"object inherit c 1 as p method old = p#get end": "< get : int ; old : int ; set : int -> unit >", "object inherit c 1 method get = true end": "type", "object inherit c 1 method m = v <- true end": "type", "object inherit c 1 val v = true end": "type", "object inherit c 1 inherit c true end": "type", "object inherit c 1 inherit c 2 end": "< get : int ; set : int -> unit >",
		"(new point 1)#move 2": "< eq : < x : int ; .. > -> bool ; move : int -> 'a ; x : int > as 'a", "object (s) inherit point 1 method y = s#x end": "< eq : < x : int ; .. > -> bool ; move : int -> 'a ; x : int ; y : int > as 'a", "object inherit point 1 method go = {< x = 2 >} end": "< eq : < x : int ; .. > -> bool ; go : 'a ; move : int -> 'a ; x : int > as 'a", "object inherit c 1 as p method m = object method n = p#get end end": "< get : int ; m : < n : int > ; set : int -> unit >",
		"fun x -> object (s) method m = x#k s end": "< k : (< m : 'b > as 'a) -> 'b ; .. > -> 'a", "object (s) method m = object (t) method n = (s, t) end end": "< m : (< n : 'a * 'b > as 'b) > as 'a", "(pair, id)": "(('a -> 'a) * ('b -> 'b)) * ('c -> 'c)", "((fst pair) 1, (fst pair) true)": "int * bool",
		"let f x = let g y = (x, y) in g in f": "'a -> 'b -> 'a * 'b", "let x = (1, id) in (snd x) true": "bool", "let o = object method m x = x end in (o#m 1, o#m true)": "type",
		"let f = fun o -> o#m in (f object method m = 1 end, f object method m = true method n = 2 end)": "int * bool", "let mk = fun x -> object method m = x end in ((mk 1)#m + 1, (mk true)#m)": "int * bool",
	} {
		x, _, no := parse.Expr(text)
		g, no := infer.Type(e, x, much)
		if want = strings.TrimSpace(want); told(g, no) != canonical(want) {
			t.Errorf("%q: %q, not %q", text, told(g, no), want)
		}
		if no == api.OK && !slices.EqualFunc(g.N, canon.Least(g).N, func(a, b api.Node) bool { return slices.Equal(a.Args, b.Args) && a.Name == b.Name }) {
			t.Errorf("%q: not the least", text)
		}
	}
}

// canonical is a type's text as it is told.
func canonical(s string) string {
	g, no := load.Read(s)
	if no != api.OK {
		return s
	}
	return told(g, no)
}

// P16.2: what phrases bind.
func TestBind(t *testing.T) {
	e := classes(t)
	for text, want := range map[string]string{
		"let f x = x": "'a -> 'a", "let f = id": "'a -> 'a", "let f = id id": "unit -> unit", "let f = (id, 1)": "('a -> 'a) * int", "let o = object method id x = x end": "< id : unit -> unit >", "id id": "unit -> unit", "id": "'a -> 'a", "let o = (id : int -> 'a)": "int -> int", "let x = (fun y -> y#m) object method m = id end": "unit -> unit",
		"let rec f x = f x": "'a -> 'b", "let rec f x = f": "'a -> 'b as 'b", "let f = let x = 1 in id": "unit -> unit", "let f = (fun x -> x) (fun o -> o#m)": "< m : unit > -> unit", "let rec f x = f 1 + f true": "type", "1 + true": "type", "let rec f n = if n < 1 then 1 else n * f (n - 1)": "int -> int",
	} {
		g, no := infer.Bind(e, phrase(t, text), much)
		if told(g, no) != canonical(want) {
			t.Errorf("%q: %q, not %q", text, told(g, no), want)
		}
	}
}

// P16.2: classes.
func TestClass(t *testing.T) {
	e := classes(t)
	for _, c := range [][4]string{
		{"class k = object end", "< > * < .. >", "", ""}, {"class k x = object val v = x method get = v end", "'a -> < v : 'a > * < get : 'a ; .. >", "get", ""}, {"class k = object inherit c true as p method get = not p#get end", "< v : bool > * < get : bool ; set : bool -> unit ; .. >", "get set", ""},
		{"class k = object (s) virtual m : int method n = s#m end", "< > * < m : int ; n : int ; .. >", "n", "m"}, {"class k = object inherit abs method m = 1 end", "< > * < m : int ; n : int ; .. >", "m n", ""}, {"class k = object inherit abs end", "< > * < m : int ; n : int ; .. >", "n", "m"}, {"class k = object virtual m : 'a end", "< > * < m : 'a ; .. >", "", "m"},
		{"class k = object method m = 1 virtual m : int end", "< > * < m : int ; .. >", "m", ""}, {"class k = object (s) method m = s end", "< > * (< m : 'a ; .. > as 'a)", "m", ""}, {"class k = object (s) method m = s#q end", "", "", ""}, {"class k x y = object val b = y val a = x end", "'a -> 'b -> < a : 'a ; b : 'b > * < .. >", "", ""},
		{"class k f = object (s) method m = f s end", "((< m : 'a ; .. > as 'b) -> 'a) -> < > * 'b", "m", ""}, {"class k = object (s) method m = (s : < m : int >)#m end", "< > * < m : int >", "m", ""}, {"class k = object (s) method m = (s : < m : int ; n : int >)#m end", "", "", ""}, {"class k = object (s) method m = (object end, s) end", "< > * < m : 'a ; .. > as 'a", "m", ""},
		{"class k = object inherit c 1 inherit two true () as p method m = p#l end", "< l : bool ; r : unit ; v : int > * < get : int ; l : bool ; m : bool ; r : unit ; set : int -> unit ; .. >", "get l m r set", ""}, {"class k x = object inherit c x end", "'a -> < v : 'a > * < get : 'a ; set : 'a -> unit ; .. >", "get set", ""}, {"class k x = object inherit c (x x) end", "('a -> 'b as 'a) -> < v : 'b > * < get : 'b ; set : 'b -> unit ; .. >", "get set", ""},
		{"class k = object val v = 1 val w = id method m = w v end", "< v : int ; w : int -> int > * < m : int ; .. >", "m", ""}, {"class k = object (s) method m = s#m method n = {< >}#m + 1 end", "< > * < m : int ; n : int ; .. >", "m n", ""}, {"class k x = object method m = x + 1 method n = not x end", "", "", ""},
	} {
		k, no := infer.Class(e, phrase(t, c[0]), much)
		if c[1] == "" {
			if no != api.ErrType || len(k.G.N) != 0 {
				t.Errorf("%q: %d", c[0], no)
			}
			continue
		}
		if told(k.G, no) != canonical(c[1]) || strings.Join(k.Concrete, " ") != c[2] || strings.Join(k.Virtual, " ") != c[3] || env.CheckClass(k) != api.OK || k.Params != strings.Count(strings.Split(c[0], "=")[0], " ")-2 {
			t.Errorf("%q: %q %v %v %d", c[0], told(k.G, no), k.Concrete, k.Virtual, k.Params)
		}
	}
}

// P16.1: errors, in their order.
func TestErrors(t *testing.T) {
	e := classes(t)
	one, wrong, gone := expr(t, "1"), expr(t, "1 1"), expr(t, "gone")
	deep := one
	for range api.MaxDeep {
		deep = api.Expr{Kind: api.Send, S: "m", Args: []api.Expr{deep}}
	}
	for i, c := range []struct {
		e      *env.Env
		x      api.Expr
		budget int
		want   api.Errno
	}{
		{nil, api.Expr{}, 0, api.ErrNil}, {e, api.Expr{}, 0, api.ErrArg}, {e, deep, 0, api.ErrDeep}, {e, gone, 0, api.ErrScope}, {e, one, 0, api.ErrArg}, {e, wrong, -1, api.ErrArg}, {e, wrong, api.MaxNodes + 1, api.ErrArg}, {e, wrong, api.MaxNodes, api.ErrType}, {e, one, api.MaxNodes, api.OK},
	} {
		g, no := infer.Type(c.e, c.x, c.budget)
		h, no2 := infer.Bind(c.e, api.Phrase{Kind: api.PLet, Name: "x", E: c.x}, c.budget)
		if no != c.want || no2 != c.want || no != api.OK && len(g.N)+len(h.N) > 0 {
			t.Error(i, no, no2)
		}
		obj := api.Expr{Kind: api.Object, Members: []api.Member{{Kind: api.Val, Name: "v", Args: []api.Expr{c.x}}}}
		if c.want == api.ErrDeep || c.want == api.OK && c.budget < 10 {
			continue
		}
		k, no := infer.Class(c.e, api.Phrase{Kind: api.PClass, Name: "k", E: obj}, c.budget)
		if no != c.want || no != api.OK && (len(k.G.N) > 0 || k.Params != 0) {
			t.Error(i, "class", no)
		}
	}
	class, value := phrase(t, "class k = object method m = 1 end"), phrase(t, "let x = 1")
	if _, no := infer.Bind(e, class, much); no != api.ErrArg {
		t.Error(no)
	}
	if _, no := infer.Class(e, value, much); no != api.ErrArg {
		t.Error(no)
	}
	if _, no := infer.Class(e, phrase(t, "let x = gone"), 0); no != api.ErrScope {
		t.Error(no)
	}
	many := phrase(t, "class k"+strings.Repeat(" x", 100)+" = object end")
	for i := range many.Names {
		many.Names[i] = name.Name(i)
	}
	if k, no := infer.Class(e, many, much); no != api.OK || k.Params != 100 {
		t.Error(no)
	}
	many.Names = append(many.Names, "more")
	if _, no := infer.Class(e, many, much); no != api.ErrArg {
		t.Error(no)
	}
}

// P16.1: nodes that are enough, and types that take too many.
func TestBudget(t *testing.T) {
	e := classes(t)
	point, _ := e.Class("point")
	for text, nodes := range map[string]int{"fun x -> x#m x#n (x, 1)": 0, "(fst, snd)": 10, "object (s) inherit point 1 method a = s#x method b = s#x end": len(point.G.N), "new point 1": len(point.G.N), "(fun x -> x : int -> 'a)": 3, "1": 0, "object end": 0, "(object method m = 1 end : < m : int > :> < >)": 3, "id id id": 3 * 2} {
		x := expr(t, text)
		enough := 40 * (tree.Size(x) + nodes + 1)
		g, no := infer.Type(e, x, enough)
		h, _ := infer.Type(e, x, api.MaxNodes)
		if no != api.OK || told(g, no) != told(h, no) {
			t.Errorf("%q: %d", text, no)
		}
		least := 1
		for ; ; least++ {
			if g, no := infer.Type(e, x, least); no == api.OK {
				break
			} else if no != api.ErrBudget || len(g.N) > 0 {
				t.Fatal(text, no)
			}
		}
		if g, no := infer.Type(e, x, least+1); no != api.OK || told(g, no) != told(h, no) {
			t.Error(text, no)
		}
	}
	for steps, want := range map[int]api.Errno{0: api.OK, 10: api.OK, 30: api.ErrBudget} {
		text := "let fa0 = fun x -> x in "
		for i := range steps {
			text += "let f" + digits(i+1) + " = fun z -> (f" + digits(i) + ", f" + digits(i) + ") in "
		}
		if _, no := infer.Type(e, expr(t, text+"f"+digits(steps)), api.MaxNodes); no != want {
			t.Error(steps, no)
		}
	}
	for steps, want := range map[int]api.Errno{0: api.OK, 10: api.OK, 40: api.ErrBudget} {
		text := "let fa0 = fun x -> (x, x) in "
		for i := range steps {
			text += "let f" + digits(i+1) + " = fun x -> f" + digits(i) + " (f" + digits(i) + " x) in "
		}
		g, no := infer.Type(e, expr(t, text+"f"+digits(steps)), api.MaxNodes)
		if no != want || no == api.OK && len(g.N) != 2+1<<steps {
			t.Error(steps, no, len(g.N))
		}
	}
}

func digits(n int) string { return string([]byte{byte('a' + n/10), byte('0' + n%10)}) }

// random is a type as it is written, perhaps with variables.
func random(r *rand.Rand, n int) string {
	if n == 0 {
		return []string{"int", "bool", "unit", "'a", "'b", "'c", "< >", "< .. >"}[r.Intn(8)]
	}
	x := func() string { return random(r, r.Intn(n)) }
	switch r.Intn(5) {
	case 0:
		return "< m : (" + x() + ") ; .. >"
	case 1:
		return "< m : (" + x() + ") >"
	case 2:
		return "(" + x() + ") * (" + x() + ")"
	}
	return "(" + x() + ") -> (" + x() + ")"
}

// P16.3: an instance of a type may be written around, and nothing else may, but what both are one as; a name that isn't asked for changes nothing.
func TestLaws(t *testing.T) {
	r := rand.New(rand.NewSource(11))
	e := classes(t)
	other, _ := e.WithValue("other", api.Graph{N: []api.Node{{Kind: api.NVar}}})
	is := 0
	for _, text := range []string{"fun x -> x", "fun x y -> x", "fun x -> x#m", "fun f x -> f x", "fun x -> x x", "object (s) method m = s end", "object method m = 1 end", "1", "(1, fun x -> x)", "fun x -> object method m = x end", "let f = fun x -> x in f f", "fun x -> (x#m; x)", "new me", "fst", "fun x -> if true then x else x#m"} {
		x := expr(t, text)
		g, no := infer.Type(e, x, much)
		if no != api.OK {
			t.Fatal(text, no)
		}
		for range 400 {
			h, no := load.Read(random(r, 3))
			if no != api.OK {
				t.Fatal(no)
			}
			h = inst.Close(h)
			s, no := name.Type(h)
			k, no2 := infer.Type(other, api.Expr{Kind: api.Annot, Types: []api.Type{s}, Args: []api.Expr{x}}, much)
			if no != api.OK || (no2 == api.OK) != inst.Is(g, h) || no2 == api.OK && !graph.Same(k, h) {
				t.Fatal(text, told(h, api.OK), no2)
			}
			if no2 == api.OK {
				is++
			}
		}
		w, no := infer.Type(e, api.Expr{Kind: api.Annot, Types: []api.Type{{Kind: api.TVar, S: "q"}}, Args: []api.Expr{x}}, much)
		if no != api.OK || !graph.Same(w, g) {
			t.Error(text, no)
		}
	}
	if is < 30 {
		t.Error(is)
	}
}
