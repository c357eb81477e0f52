package eval_test

import (
	"strconv"
	"strings"
	"testing"

	"trefoil/api"
	"trefoil/eval"
	"trefoil/parse"
)

const much = 1000000

// answer runs a phrase's text: its value, or an error's word.
func answer(t *testing.T, s *eval.Session, text string, fuel int) string {
	p, at, no := parse.Parse(text)
	if no != api.OK {
		t.Fatalf("%q: %d at %d", text, no, at)
	}
	v, no := s.Do(p, fuel)
	words := map[api.Errno]string{api.ErrZero: "zero", api.ErrFuel: "fuel", api.ErrStuck: "stuck", api.ErrArg: "arg"}
	if no != api.OK {
		if v != "" {
			t.Errorf("%q: %q beside an error", text, v)
		}
		return words[no]
	}
	return v
}

// P19.1, P19.2: values, and how many steps they take.
func TestDo(t *testing.T) {
	for _, c := range []struct {
		text, want string
		steps      int
	}{
		{"1", "1", 1}, {"true", "true", 1}, {"\"a\\n\"", "\"a\\n\"", 1}, {"()", "()", 1}, {"(1, (true, \"\"))", "(1, (true, \"\"))", 5}, {"fun x -> x", "<fun>", 1}, {"fst", "<fun>", 1}, {"object end", "<obj>", 1}, {"x", "stuck", 1},
		{"1 + 2 * 3", "7", 5}, {"7 / (0 - 2)", "-3", 5}, {"1 / 0", "zero", 3}, {"9223372036854775807 + 1", "-9223372036854775808", 3}, {"1 = 1", "true", 3}, {"2 < 1", "false", 3}, {"true + 1", "stuck", 3}, {"1 = true", "stuck", 3}, {"1 + \"\"", "stuck", 3},
		{"(fun x -> x + 1) 2", "3", 6}, {"(fun x y -> x) 1 2", "1", 7}, {"1 2", "stuck", 3}, {"1 (1 / 0)", "zero", 5}, {"fst (1, 2)", "1", 5}, {"snd (1, 2)", "2", 5}, {"not true", "false", 3}, {"not false", "true", 3}, {"not 1", "stuck", 3}, {"fst 1", "stuck", 3}, {"not (1, 2)", "stuck", 5}, {"fst true", "stuck", 3},
		{"let x = 1 in x + x", "2", 5}, {"let x = 1 in let x = x + 1 in x", "2", 7}, {"let rec f n = if n < 1 then 1 else n * f (n - 1) in f 20", "2432902008176640000", 0}, {"let rec f = fun n -> n in f 3", "3", 6}, {"if true then 1 else x", "1", 3}, {"if false then x else 2", "2", 3}, {"if 1 then 1 else 2", "stuck", 2}, {"1; 2", "2", 3}, {"(1; x); 2", "stuck", 4},
		{"(1 : bool)", "1", 2}, {"(1 : int :> bool)", "1", 2}, {"x <- 1", "stuck", 2}, {"x <- 1 / 0", "zero", 4}, {"fun x -> x <- 1", "<fun>", 1}, {"(fun x -> x <- 1) 2", "stuck", 5}, {"1#m", "stuck", 2}, {"object end#m", "stuck", 2}, {"object method m = 1 end#m", "1", 3}, {"object method m = 1 method m = 2 end#m", "2", 3}, {"(1 / 0)#m", "zero", 4},
		{"object val v = 1 method m = v <- v + 1 ; v end#m", "2", 9}, {"object (s) method a = s#b method b = 5 end#a", "5", 5}, {"object (s) val s = 1 method m = s end#m", "<obj>", 4}, {"object val v = 1 val w = v method m = w end#m", "stuck", 4}, {"let v = 7 in object val v = 1 val w = v method m = w end#m", "7", 7}, {"object val v = 1 val v = 2 method m = v end#m", "2", 5},
		{"(object val v = 1 method m = {< v = v + 1 >} method get = v end)#m#m#get", "3", 0}, {"(object val v = 1 method m = ({< v = 5 >}, v) method get = v end)#m", "(<obj>, 1)", 0}, {"(object val v = 1 method m = {< v = 5 ; v = 6 >} method get = v end)#m#get", "6", 0},
		{"{< >}", "stuck", 1}, {"{< v = 1 / 0 >}", "stuck", 1}, {"(object val v = 1 method m = {< w = 1 / 0 >} end)#m", "stuck", 4}, {"(object method m = {< >} method n = 4 end)#m#n", "4", 5}, {"(object val v = {< >} end)", "stuck", 2}, {"(object val v = 1 method m = object method n = {< v = 2 >} end end)#m#n", "stuck", 6}, {"(object val v = 1 method m = object val w = {< v = 2 >} method n = w end end)#m#n", "<obj>", 8},
		{"new c", "stuck", 1}, {"new c (1 / 0)", "stuck", 1}, {"object inherit c end", "stuck", 1}, {"object val v = 1 / 0 inherit c end", "zero", 4}, {"object inherit c (1 / 0) end", "stuck", 1}, {"object virtual m : int end", "<obj>", 1}, {"object method m = p#q end#m", "stuck", 4}, {"object inherit c as p method m = 1 end#m", "stuck", 2},
		{"(1, 2 / 0)", "zero", 5}, {"let p = (1, 2) in let f = fun x -> fst p + x in f 5", "6", 0}, {"(object val v = 1 method m = fun x -> v <- x method get = v end)", "<obj>", 2}, {"let o = object val v = 1 method m = fun x -> v <- x method get = v end in let f = o#m in f 9; o#get", "9", 0},
		{"(object val v = 1 method m = fun v -> v end)#m 5", "5", 7}, {"(object val v = 1 method m = fun v -> v <- 2 end)#m 5", "stuck", 8},
	} {
		s := eval.New()
		if got := answer(t, s, c.text, much); got != c.want || c.steps > 0 && s.Steps() != c.steps {
			t.Errorf("%q: %q in %d", c.text, got, s.Steps())
		}
		if got := answer(t, s, "x", much); got != "stuck" {
			t.Errorf("%q: x is %q", c.text, got)
		}
	}
}

// P19.1: phrases one behind the other; names, of classes too, mean what they meant.
func TestTalk(t *testing.T) {
	s := eval.New()
	for _, c := range [][2]string{
		{"let x = 1", "1"}, {"(object val v = x method m = v <- v + 1 ; v end)#m", "2"}, {"let f y = x + y", "<fun>"}, {"let x = 10", "10"}, {"f 1", "2"}, {"let x = x + 1", "11"}, {"x", "11"}, {"let rec f n = if n < 1 then 0 else f (n - 1)", "<fun>"}, {"f 100", "0"},
		{"class c a b = object (s) val v = a method get = v method both = (a, b) method set w = v <- w method name = \"c\" method call = s#name end", ""}, {"let o = new c x 2", "<obj>"}, {"o#both", "(11, 2)"}, {"o#set 5", "()"}, {"o#get", "5"}, {"o#both", "(11, 2)"}, {"o#call", "\"c\""}, {"new c 1", "stuck"}, {"new c 1 2 3", "stuck"},
		{"class d = object (s) inherit c 7 x as p val w = 3 method get = p#get * 100 + w method name = \"d\" method old = p#name method none = p#nothing method sup = p end", ""}, {"let x = 99", "99"}, {"let e = new d", "<obj>"}, {"e#get", "703"}, {"e#both", "(7, 11)"}, {"e#name", "\"d\""}, {"e#old", "\"c\""}, {"e#call", "\"d\""}, {"e#none", "stuck"}, {"e#sup", "stuck"},
		{"class c = object method name = \"new c\" end", ""}, {"(new d)#old", "\"c\""}, {"(new c)#name", "\"new c\""}, {"e#set 8", "()"}, {"e#get", "803"}, {"(new d)#get", "703"}, {"let e2 = object inherit d as p method get = p#get + 1 end", "<obj>"}, {"e2#get", "704"}, {"e2#set 1; e2#get", "104"},
		{"class two = object inherit d as p inherit d as q method m = (p#get, q#get) method n = p#set 1; q#get end", ""}, {"(new two)#m", "(703, 703)"}, {"(new two)#n", "103"}, {"class k = object inherit k end", ""}, {"new k", "stuck"}, {"class k = object method m = new k end", ""}, {"(new k)#m", "stuck"}, {"class k = object method m = 1 end", ""}, {"class k = object inherit k method n = 2 end", ""}, {"(new k)#m + (new k)#n", "3"},
		{"class p2 = object val v = 1 method v2 = v end", ""}, {"class q2 = object inherit p2 val v = 5 method both = (v, 0) end", ""}, {"(new q2)#v2", "5"}, {"let v = 50", "50"}, {"class r2 = object method see = v end", ""}, {"class s2 = object inherit r2 val v = 6 method own = v end", ""}, {"((new s2)#see, (new s2)#own)", "(50, 6)"},
		{"class order x = object val a = x val b = x + 1 method sum = a * 10 + b end", ""}, {"(object inherit order (1 / 0) end)", "zero"}, {"(object val z = 1 inherit order z end)", "stuck"}, {"(object inherit order 1 inherit order 2 as p method l = p#sum end)#l", "23"}, {"(object method sum = 0 inherit order 1 end)#sum", "12"}, {"(object inherit order 1 method sum = 0 end)#sum", "0"},
		{"class outer x = object method mk = object (t) inherit order x as p method up = p#sum method x = x end end", ""}, {"let i = (new outer 4)#mk", "<obj>"}, {"(i#up, i#x)", "(45, 4)"}, {"let pt = (object (s) val x = 1 method get = x method move d = {< x = x + d >} end)", "<obj>"}, {"(pt#move 3)#get * 10 + pt#get", "41"},
		{"(object inherit d as a inherit order 1 as a method m = a#sum end)#m", "12"}, {"(object inherit order 1 as a method m = object method n = a#sum end end)#m#n", "12"}, {"(object (a) inherit order 1 as a method m = a#sum end)#m", "12"}, {"(object inherit order 1 as a val a = 3 method m = a#sum end)#m", "32"}, {"(object inherit order 1 as a method m = let a = 5 in a end)#m", "5"},
	} {
		if got := answer(t, s, c[0], much); got != c[1] {
			t.Errorf("%q: %q, not %q", c[0], got, c[1])
		}
	}
}

// P19.1: of an error no name means something else; what fields were given stays.
func TestKept(t *testing.T) {
	s := eval.New()
	answer(t, s, "let o = object val v = 1 method set x = v <- x method get = v end", much)
	answer(t, s, "let x = 1", much)
	for _, c := range [][2]string{{"let x = o#set 2; 1 / 0", "zero"}, {"x", "1"}, {"o#get", "2"}, {"let y = z", "stuck"}, {"y", "stuck"}, {"let rec w x = x", "fuel"}} {
		fuel := much
		if c[1] == "fuel" {
			fuel = 0
		}
		if got := answer(t, s, c[0], fuel); got != c[1] {
			t.Errorf("%q: %q", c[0], got)
		}
	}
	if answer(t, s, "w", much) != "stuck" {
		t.Error("w")
	}
}

// P19.1, P19.2: errors in their order, and a nil Session.
func TestErrors(t *testing.T) {
	s := eval.New()
	deep := api.Expr{Kind: api.Num}
	for range api.MaxDeep {
		deep = api.Expr{Kind: api.Annot, Types: []api.Type{{Kind: api.TVar, S: "a"}}, Args: []api.Expr{deep}}
	}
	one := api.Phrase{Kind: api.PExpr, E: api.Expr{Kind: api.Num, N: 1}}
	if _, no := s.Do(one, 5); no != api.OK || s.Steps() != 1 {
		t.Error(no, s.Steps())
	}
	for i, c := range []struct {
		p    api.Phrase
		fuel int
		want api.Errno
	}{
		{api.Phrase{}, -1, api.ErrArg}, {api.Phrase{Kind: api.PExpr, E: deep}, -1, api.ErrDeep}, {one, -1, api.ErrArg}, {one, api.MaxFuel + 1, api.ErrArg}, {one, 0, api.ErrFuel}, {api.Phrase{Kind: api.PLet, E: one.E}, 1, api.ErrArg}, {api.Phrase{Kind: api.PClass, Name: "c", E: api.Expr{Kind: api.Object}}, -1, api.ErrArg},
	} {
		if v, no := s.Do(c.p, c.fuel); v != "" || no != c.want || s.Steps() != 0 {
			t.Error(i, v, no, s.Steps())
		}
	}
	var none *eval.Session
	if v, no := none.Do(one, 1); v != "" || no != api.ErrNil || none.Steps() != 0 {
		t.Error(v, no)
	}
	if eval.New().Steps() != 0 {
		t.Error("steps at first")
	}
	if answer(t, s, "class c = object end", 0) != "" || s.Steps() != 0 || answer(t, s, "let rec f x = x", 1) != "<fun>" || s.Steps() != 1 {
		t.Error("class, rec", s.Steps())
	}
	if _, no := s.Do(one, api.MaxFuel); no != api.OK {
		t.Error(no)
	}
}

// P19.3: with as much fuel as it took, and with more, it comes to the same; with less it runs out.
func TestFuel(t *testing.T) {
	for _, text := range []string{"1", "1 + 2 * 3", "let rec f n = if n < 1 then 0 else f (n - 1) in f 5", "object val v = 1 method m = v <- v + 1 ; v end#m", "1 / 0", "x", "(fun x -> x#m) 1", "let c = object (s) method m = {< >} end in c#m#m"} {
		s := eval.New()
		want := answer(t, s, text, much)
		took := s.Steps()
		for fuel := range took + 3 {
			s := eval.New()
			got := answer(t, s, text, fuel)
			if fuel < took && (got != "fuel" || s.Steps() != fuel) || fuel >= took && (got != want || s.Steps() != took) {
				t.Errorf("%q: %q with %d of %d", text, got, fuel, took)
			}
		}
	}
}

// P19.1: pairs within pairs.
func TestPairs(t *testing.T) {
	text := "1"
	for range 12 {
		text = "(" + text + ", 0)"
	}
	want := strings.Repeat("(", 10) + ".." + strings.Repeat(", 0)", 10)
	if got := answer(t, eval.New(), text, much); got != want {
		t.Error(got)
	}
	text = "1"
	for range 10 {
		text = "(0, " + text + ")"
	}
	if got := answer(t, eval.New(), text, much); got != text {
		t.Error(got)
	}
}

// Runs that are as long, and calls that are as deep, as they may be; classes that inherit often.
func TestGreat(t *testing.T) {
	s := eval.New()
	answer(t, s, "let rec loop x = loop x", much)
	if got := answer(t, s, "loop 1", api.MaxFuel); got != "fuel" || s.Steps() != api.MaxFuel {
		t.Error(got)
	}
	answer(t, s, "let rec sum n = if n < 1 then 0 else n + sum (n - 1)", much)
	if got := answer(t, s, "sum 1000000", api.MaxFuel); got != "500000500000" {
		t.Error(got)
	}
	answer(t, s, "class a0 = object method m = 1 end", much)
	answer(t, s, "class b0 = object val v = 1 method m = v end", much)
	for i := range 80 {
		for _, c := range []string{"a", "b"} {
			k := c + strconv.Itoa(i)
			answer(t, s, "class "+c+strconv.Itoa(i+1)+" = object inherit "+k+" as p inherit "+k+" as q method m = p#m + q#m end", much)
		}
	}
	if got := answer(t, s, "(new a80)#m", 1000); got != "fuel" {
		t.Error(got)
	}
	if got := answer(t, s, "(new a10)#m", much); got != "1024" {
		t.Error(got)
	}
	if got := answer(t, s, "(new b10)#m", much); got != "1024" {
		t.Error(got)
	}
	if got := answer(t, s, "new b80", much); got != "fuel" {
		t.Error(got)
	}
}
