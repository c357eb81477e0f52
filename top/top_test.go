package top_test

import (
	"math/rand"
	"slices"
	"strconv"
	"strings"
	"testing"

	"trefoil/api"
	"trefoil/load"
	"trefoil/name"
	"trefoil/top"
)

const much = 100000

// P20.1: answers, one behind the other, and what they come to.
func TestTalk(t *testing.T) {
	s := top.New()
	for _, c := range []struct {
		text, want string
		no         api.Errno
	}{
		{"let f x = x", "val f : 'a -> 'a = <fun>", api.OK}, {"f 1 + 2", "- : int = 3", api.OK}, {"f 1 2", "type", api.ErrType}, {"g", "scope g", api.ErrScope}, {"fun x -> x#m", "- : < m : 'a ; .. > -> 'a = <fun>", api.OK}, {"fun x -> x x", "- : 'a -> 'b as 'a = <fun>", api.OK},
		{"object (s) method me = s end", "- : < me : 'a > as 'a = <obj>", api.OK}, {"class c x = object val v = x method get = v end", "class c : 'a -> < v : 'a > * < get : 'a ; .. >", api.OK}, {"(new c 1)#get + 1", "- : int = 2", api.OK},
		{"class d = object inherit c true as p method get = not p#get end", "class d : < v : bool > * < get : bool ; .. >", api.OK}, {"(new d)#get", "- : bool = false", api.OK}, {"1 + true", "type", api.ErrType}, {"1 / 0", "zero", api.ErrZero}, {"y", "scope y", api.ErrScope}, {"let x", "syntax 5", api.ErrForm},
		{"(object method a = 1 method b = 2 end : < a : int ; b : int > :> < a : int >)", "- : < a : int > = <obj>", api.OK}, {"let rec f n = if n < 1 then 1 else n * f (n - 1)", "val f : int -> int = <fun>", api.OK}, {"f 20", "- : int = 2432902008176640000", api.OK},
		{"class v = object virtual m : int virtual k : bool method n = 1 end", "class v : < > * < k : bool ; m : int ; n : int ; .. > virtual k m", api.OK}, {"new v", "type", api.ErrType}, {"class c = object method get = y end", "scope y", api.ErrScope}, {"class c = object (s) method get = s#no end", "type", api.ErrType}, {"(new c 2)#get", "- : int = 2", api.OK},
		{"", "syntax 0", api.ErrForm}, {"x ?", "syntax 2", api.ErrLex}, {strings.Repeat(" ", 65537), "syntax 0", api.ErrLong}, {"f" + strings.Repeat("#m", 300), "syntax 0", api.ErrDeep}, {"let rec z = 1", "syntax 8", api.ErrForm}, {"let s = \"a\\n\"", "val s : string = \"a\\n\"", api.OK}, {"(s, ())", "- : string * unit = (\"a\\n\", ())", api.OK},
		{"let id = (fun x -> x) (fun x -> x)", "val id : unit -> unit = <fun>", api.OK}, {"let rec loop x = loop x", "val loop : 'a -> 'b = <fun>", api.OK}, {"loop 1", "fuel", api.ErrFuel}, {"let y = loop 1", "fuel", api.ErrFuel}, {"y", "scope y", api.ErrScope}, {"let w = 1 / 0", "zero", api.ErrZero}, {"w", "scope w", api.ErrScope}, {"{< >}", "scope self", api.ErrScope},
	} {
		if got := s.Do(c.text, much, much); got != c.want || s.Verdict() != c.no {
			t.Errorf("%.40q: %q %d, not %q", c.text, got, s.Verdict(), c.want)
		}
	}
	if strings.Join(s.Values(), " ") != "f fst id loop not s snd" || strings.Join(s.Classes(), " ") != "c d v" {
		t.Error(s.Values(), s.Classes())
	}
}

// P20.1: limits, in their place among the answers.
func TestLimits(t *testing.T) {
	s := top.New()
	for _, c := range []struct {
		text         string
		budget, fuel int
		want         string
		no           api.Errno
	}{
		{"1 1", 0, -1, "argument", api.ErrArg}, {"1", api.MaxNodes + 1, 1, "argument", api.ErrArg}, {"1", 1000, api.MaxFuel + 1, "argument", api.ErrArg}, {"1", 1000, -1, "argument", api.ErrArg}, {"1", 0, 5, "argument", api.ErrArg}, {"x", 0, 0, "scope x", api.ErrScope}, {")", 0, 0, "syntax 0", api.ErrForm},
		{"1", api.MaxNodes, api.MaxFuel, "- : int = 1", api.OK}, {"1", 1000, 0, "fuel", api.ErrFuel}, {"1 1", 1000, 0, "type", api.ErrType}, {"fun x y z -> x", 1, 5, "budget", api.ErrBudget}, {"class c = object end", 1000, 0, "class c : < > * < .. >", api.OK}, {"class c = object method m = (1, (2, fun x -> x)) end", 2, 0, "budget", api.ErrBudget}, {"class c = object end", 1000, -1, "argument", api.ErrArg},
	} {
		if got := s.Do(c.text, c.budget, c.fuel); got != c.want || s.Verdict() != c.no {
			t.Errorf("%q %d %d: %q %d", c.text, c.budget, c.fuel, got, s.Verdict())
		}
	}
	names := ""
	for i := range 101 {
		names += " " + name.Name(i)
	}
	if got := s.Do("class many"+names+" = object end", much, 1); got != "argument" || s.Verdict() != api.ErrArg {
		t.Error(got)
	}
	deep := "let a0 = fun x -> x"
	s.Do(deep, much, much)
	for i := range 9 {
		got := s.Do("let a"+strconv.Itoa(i+1)+" = fun x -> fun y -> (a"+strconv.Itoa(i)+", fun z -> z)", api.MaxNodes, much)
		if !strings.HasPrefix(got, "val ") {
			t.Fatal(got)
		}
	}
	if got := s.Do("let f0 = fun x -> (x, 1)", much, much); got != "val f0 : 'a -> 'a * int = <fun>" {
		t.Error(got)
	}
	for i := range 7 {
		k := strconv.Itoa(i)
		s.Do("let f"+strconv.Itoa(i+1)+" = fun x -> f"+k+" (f"+k+" x)", much, much)
	}
	if got := s.Do("let f8 = fun x -> f7 (f7 x)", much, much); got != "deep" || s.Verdict() != api.ErrDeep {
		t.Error(got)
	}
	if got := s.Do("class k = object val v = fun x -> f7 (f7 x) end", much, much); got != "deep" || s.Verdict() != api.ErrDeep || len(s.Classes()) != 1 || slices.Contains(s.Values(), "f8") {
		t.Error(got, s.Classes())
	}
}

// P20.1, P20.2: a nil Session, and a new one.
func TestNil(t *testing.T) {
	var s *top.Session
	if s.Do("1", 1, 1) != "" || s.Verdict() != api.ErrNil || s.Values() != nil || s.Classes() != nil {
		t.Error("nil")
	}
	s = top.New()
	if s.Verdict() != api.OK || strings.Join(s.Values(), " ") != "fst not snd" || len(s.Classes()) != 0 {
		t.Error("new")
	}
}

// writer makes up phrases.
type writer struct {
	*rand.Rand
	names []string
}

func (w *writer) name() string { return w.names[w.Intn(len(w.names))] }

// expr makes up an expression in which some names are bound.
func (w *writer) expr(n int) string {
	if n <= 0 {
		return []string{"1", "true", "()", "\"\"", w.name(), w.name(), w.name(), w.name()}[w.Intn(8)]
	}
	x := func() string { return w.expr(w.Intn(n)) }
	bound := func(s string) string {
		w.names = append(w.names, s)
		defer func() { w.names = w.names[:len(w.names)-1] }()
		return x()
	}
	v := []string{"x", "y", "z"}[w.Intn(3)]
	m := []string{"m", "n"}[w.Intn(2)]
	switch w.Intn(16) {
	case 0, 1:
		return "(fun " + v + " -> " + bound(v) + ")"
	case 2, 3:
		return "(" + x() + " " + x() + ")"
	case 4:
		return "(let " + v + " = " + x() + " in " + bound(v) + ")"
	case 5:
		return "(let rec " + v + " q = " + bound(v) + " in " + bound(v) + ")"
	case 6:
		return "(" + x() + ", " + x() + ")"
	case 7:
		return "(if " + x() + " then " + x() + " else " + x() + ")"
	case 8:
		return "(" + x() + []string{" + ", " / ", " = ", " < "}[w.Intn(4)] + x() + ")"
	case 9, 10:
		return x() + "#" + m
	case 11:
		return "(new " + []string{"c", "d", "e"}[w.Intn(3)] + strings.Repeat(" "+x(), w.Intn(2)) + ")"
	case 12:
		return "(" + x() + " : " + []string{"int", "'a -> 'a", "< m : 'a ; .. >", "< m : int > :> < >", "< m : 'a ; n : 'a > as 'b"}[w.Intn(5)] + ")"
	case 13:
		return "(" + x() + "; " + x() + ")"
	}
	return "object " + w.body(n) + " end"
}

// body makes up an object's members.
func (w *writer) body(n int) string {
	s := "(s) "
	names := []string{"s", "s"}
	for range w.Intn(2) {
		s += "inherit " + []string{"c", "d", "e"}[w.Intn(3)] + strings.Repeat(" "+w.expr(n-2), w.Intn(2)) + " as p "
		names = append(names, "p#m", "p#n")
	}
	if w.Intn(2) == 0 {
		s += "val v = " + w.expr(n-1) + " "
		names = append(names, "v", "(v <- "+w.expr(n-2)+")", "{< v = "+w.expr(n-2)+" >}", "{< >}")
	}
	if w.Intn(8) == 0 {
		s += "virtual n : int "
	}
	own := len(w.names)
	w.names = append(w.names, names...)
	for _, m := range []string{"m", "n"}[w.Intn(3)/2:] {
		s += "method " + m + " = " + w.expr(n-1) + " "
	}
	w.names = w.names[:own]
	return s
}

func (w *writer) phrase() string {
	switch w.Intn(6) {
	case 0:
		return "let " + []string{"x", "y", "g"}[w.Intn(3)] + " = " + w.expr(4)
	case 1:
		w.names = append(w.names, "x")
		defer func() { w.names = w.names[:len(w.names)-1] }()
		return "class " + []string{"c", "d", "e"}[w.Intn(3)] + []string{"", " x"}[w.Intn(2)] + " = object " + w.body(4) + " end"
	case 2:
		return "let rec f x = " + w.expr(4)
	}
	return w.expr(5)
}

// fits says whether a value's text is one of a type's.
func fits(value, typ string) bool {
	switch typ {
	case "int":
		_, err := strconv.ParseInt(value, 10, 64)
		return err == nil
	case "bool":
		return value == "true" || value == "false"
	case "unit":
		return value == "()"
	case "string":
		return value[0] == '"'
	}
	g, no := load.Read(typ)
	if no != api.OK {
		return false
	}
	switch n := g.N[0]; {
	case n.Kind == api.NObj:
		return value == "<obj>"
	case n.Name == "->":
		return value == "<fun>"
	case n.Name == "*":
		return value[0] == '('
	}
	return false
}

// P20.3, P3, P4, P5: made-up talks. "stuck" is never an answer, what is refused changes nothing, values are of their types, and a greater budget answers the same.
func TestMadeUp(t *testing.T) {
	count := map[string]int{}
	for seed := range 400 {
		w := &writer{Rand: rand.New(rand.NewSource(int64(seed))), names: []string{"x", "y", "g", "f", "fst", "not"}}
		s, u := top.New(), top.New()
		for _, x := range []string{"let x = 1", "let y = fun z -> z", "let g = object method m = 1 method n = fun z -> z end", "let rec f x = f x", "class c = object method m = 1 end", "class d x = object val v = x method m = v end", "class e = object (s) method n = s end"} {
			s.Do(x, much, much)
			u.Do(x, much, much)
		}
		for range 60 {
			text := w.phrase()
			values, classes := s.Values(), s.Classes()
			small := u.Do(text, 60, 500)
			got := s.Do(text, much, 500)
			word, _, _ := strings.Cut(got, " ")
			count[word]++
			if small != "budget" && small != got || got == "stuck" || word == "argument" || (s.Verdict() == api.OK) != (word == "-" || word == "val" || word == "class") {
				t.Fatalf("%q: %q, %q", text, got, small)
			}
			if small == "budget" { // both go on alike
				if again := u.Do(text, much, 500); again != got {
					t.Fatalf("%q: %q, %q", text, got, again)
				}
			}
			if s.Verdict() != api.OK && (!slices.Equal(values, s.Values()) || !slices.Equal(classes, s.Classes())) {
				t.Fatalf("%q: names", text)
			}
			if s.Verdict() == api.OK && word != "class" {
				typ, value, _ := strings.Cut(got[strings.Index(got, ": ")+2:], " = ")
				if g, no := load.Read(typ); no != api.OK || !told(g, typ) || !fits(value, typ) {
					t.Fatalf("%q: %q", text, got)
				}
			}
		}
	}
	if count["-"] < 1000 || count["val"] < 300 || count["class"] < 80 || count["type"] < 1000 || count["fuel"] < 20 {
		t.Error(count)
	}
}

func told(g api.Graph, typ string) bool {
	s, no := name.Put(g)
	return no == api.OK && s == typ
}
