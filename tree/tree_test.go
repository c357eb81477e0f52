package tree_test

import (
	"strings"
	"testing"

	"trefoil/api"
	"trefoil/tree"
)

type ex = api.Expr
type ty = api.Type

func v(s string) ex                      { return ex{Kind: api.Var, S: s} }
func one(kind int, s string, a ...ex) ex { return ex{Kind: kind, S: s, Args: a} }

var (
	tInt = ty{Kind: api.TCon, S: "int"}
	one1 = ex{Kind: api.Num, N: 1}
)

func member(kind int, name, as string, a ...ex) api.Member {
	return api.Member{Kind: kind, Name: name, As: as, Args: a}
}

func object(s string, m ...api.Member) ex { return ex{Kind: api.Object, S: s, Members: m} }

// good are expressions that may be, of all kinds.
func good() []ex {
	f := one(api.Fun, "x", v("x"))
	virtual := api.Member{Kind: api.Virtual, Name: "m", Types: []ty{tInt}}
	return []ex{
		v("x"), one1, {Kind: api.Num, N: 1<<63 - 1}, {Kind: api.Bool}, {Kind: api.Bool, N: 1}, {Kind: api.Text},
		{Kind: api.Text, S: strings.Repeat("\xff", api.MaxText)}, {Kind: api.Unit}, f, one(api.App, "", f, f), one(api.Let, "x", f, f),
		one(api.Rec, "x", f, v("y")), one(api.Pair, "", f, f), one(api.If, "", f, f, f), one(api.Op, "=", f, f), one(api.Op, "/", f, f),
		one(api.Seq, "", f, f), object(""), object("s", member(api.Inherit, "c", "p", f, f), member(api.Inherit, "c", ""),
			member(api.Val, "v", "", f), member(api.Method, "m", "", f), virtual, virtual),
		one(api.Send, "m", f), one(api.Set, "v", f), one(api.New, "c"), one(api.New, "c", f, f, f, f),
		{Kind: api.Clone}, {Kind: api.Clone, Names: []string{"v", "v"}, Args: []ex{f, f}},
		{Kind: api.Annot, Types: []ty{tInt}, Args: []ex{f}}, {Kind: api.Coerce, Types: []ty{tInt, tInt}, Args: []ex{f}},
	}
}

// P2.2: what may be.
func TestCheckGood(t *testing.T) {
	for i, e := range good() {
		if got := tree.Check(e); got != api.OK {
			t.Error(i, got)
		}
		if got := tree.Check(one(api.Pair, "", one1, e)); got != api.OK {
			t.Error("within a pair", i, got)
		}
	}
}

// changed are copies of an expression that may not be.
func changed(e ex) []ex {
	var l []ex
	put := func(f func(x *ex)) {
		x := e
		f(&x)
		l = append(l, x)
	}
	put(func(x *ex) { x.Kind = 0 })
	put(func(x *ex) { x.Kind = 21 })
	put(func(x *ex) { x.N = -1 })
	if e.Kind != api.Num {
		put(func(x *ex) { x.N += 2 })
	}
	if e.Kind != api.Text {
		put(func(x *ex) { x.S = "A" })
		put(func(x *ex) { x.S = "let" })
	}
	if e.Kind != api.New {
		put(func(x *ex) { x.Args = append(x.Args[:len(x.Args):len(x.Args)], one1) })
		if len(e.Args) > 0 {
			put(func(x *ex) { x.Args = x.Args[1:] })
		}
	}
	put(func(x *ex) { x.Names = append(x.Names[:len(x.Names):len(x.Names)], "v") })
	put(func(x *ex) { x.Types = append(x.Types[:len(x.Types):len(x.Types)], tInt) })
	if e.Kind != api.Object {
		put(func(x *ex) { x.Members = []api.Member{member(api.Val, "v", "", one1)} })
	}
	if len(e.Args) > 0 {
		put(func(x *ex) { x.Args = append([]ex{{}}, x.Args[1:]...) })
	}
	return l
}

// P2.2: what may not be.
func TestCheckBad(t *testing.T) {
	for i, e := range good() {
		for j, x := range changed(e) {
			if got := tree.Check(x); got != api.ErrArg {
				t.Error(i, j, x.Kind, got)
			}
		}
	}
	for i, e := range []ex{
		{Kind: api.Text, S: strings.Repeat("x", api.MaxText+1)}, {Kind: api.Bool, N: 2}, v(""), one(api.Rec, "x", v("y"), v("y")),
		one(api.Op, "<=", one1, one1), one(api.Op, "", one1, one1), {Kind: api.Clone, Names: []string{"V"}, Args: []ex{one1}},
		{Kind: api.Annot, Types: []ty{{}}, Args: []ex{one1}},
		object("s", member(0, "v", "", one1)), object("s", member(5, "v", "", one1)), object("s", member(api.Val, "V", "", one1)),
		object("s", member(api.Val, "v", "p", one1)), object("s", member(api.Method, "v", "")), object("s", member(api.Val, "v", "", one1, one1)),
		object("s", member(api.Inherit, "", "p")), object("s", member(api.Inherit, "c", "let")), object("s", member(api.Virtual, "v", "")),
		object("s", api.Member{Kind: api.Virtual, Name: "v", Types: []ty{tInt}, Args: []ex{one1}}),
		object("s", api.Member{Kind: api.Virtual, Name: "v", As: "p", Types: []ty{tInt}}), object("s", api.Member{Kind: api.Virtual, Name: "v", Types: []ty{{}}}),
		object("s", api.Member{Kind: api.Val, Name: "v", Types: []ty{tInt}, Args: []ex{one1}}), object("s", member(api.Val, "v", "", ex{})),
		object("s", api.Member{Kind: api.Inherit, Name: "v", Types: []ty{tInt}}),
	} {
		if got := tree.Check(e); got != api.ErrArg {
			t.Error(i, got)
		}
	}
}

// P2.2: types.
func TestCheckType(t *testing.T) {
	arrow := func(s string, a ...ty) ty { return ty{Kind: api.TCon, S: s, Args: a} }
	for i, x := range []ty{
		tInt, {Kind: api.TCon, S: "bool"}, {Kind: api.TCon, S: "string"}, {Kind: api.TCon, S: "unit", Args: []ty{}}, arrow("->", tInt, tInt), arrow("*", tInt, tInt),
		{Kind: api.TVar, S: "a"}, {Kind: api.TVar, S: "let"}, {Kind: api.TObj}, {Kind: api.TObj, Open: true},
		{Kind: api.TObj, Labels: []string{"_", "a", "aB", "ab"}, Args: []ty{tInt, tInt, tInt, tInt}}, {Kind: api.TAs, S: "in", Args: []ty{tInt}},
	} {
		if got := tree.CheckType(x); got != api.OK {
			t.Error(i, got)
		}
		if got := tree.CheckType(arrow("*", tInt, x)); got != api.OK {
			t.Error("within a product", i, got)
		}
	}
	for i, x := range []ty{
		{}, {Kind: 5, S: "int"}, {Kind: api.TCon}, {Kind: api.TCon, S: "float"}, {Kind: api.TCon, S: "int", Args: []ty{tInt}}, {Kind: api.TCon, S: "int", Open: true},
		arrow("->", tInt), arrow("*", tInt, tInt, tInt), arrow("*", tInt, ty{}), {Kind: api.TCon, S: "int", Labels: []string{"a"}},
		{Kind: api.TVar}, {Kind: api.TVar, S: "A"}, {Kind: api.TVar, S: "a", Open: true}, {Kind: api.TVar, S: "a", Args: []ty{tInt}}, {Kind: api.TVar, S: strings.Repeat("a", 101)},
		{Kind: api.TObj, S: "a"}, {Kind: api.TObj, Labels: []string{"a"}}, {Kind: api.TObj, Args: []ty{tInt}},
		{Kind: api.TObj, Labels: []string{"a", "a"}, Args: []ty{tInt, tInt}}, {Kind: api.TObj, Labels: []string{"b", "a"}, Args: []ty{tInt, tInt}},
		{Kind: api.TObj, Labels: []string{"let"}, Args: []ty{tInt}}, {Kind: api.TAs, S: "a"}, {Kind: api.TAs, Args: []ty{tInt}}, {Kind: api.TAs, S: "a", Args: []ty{tInt, tInt}},
		{Kind: api.TAs, S: "a", Args: []ty{tInt}, Open: true},
	} {
		if got := tree.CheckType(x); got != api.ErrArg {
			t.Error(i, got)
		}
	}
}

// nest is an expression, or a type, with so many levels.
func nest(n int) ex {
	e := v("x")
	for range n - 1 {
		e = one(api.Send, "m", e)
	}
	return e
}

func nestType(n int) ty {
	x := tInt
	for range n - 1 {
		x = ty{Kind: api.TAs, S: "a", Args: []ty{x}}
	}
	return x
}

// P2.2: depth, and ErrArg ahead of it.
func TestDeep(t *testing.T) {
	annot := func(x ty) ex { return ex{Kind: api.Annot, Types: []ty{x}, Args: []ex{one1}} }
	for i, c := range []struct {
		e    ex
		want api.Errno
	}{
		{nest(api.MaxDeep), api.OK}, {nest(api.MaxDeep + 1), api.ErrDeep}, {one(api.Pair, "", nest(api.MaxDeep), ex{}), api.ErrArg},
		{annot(nestType(api.MaxDeep)), api.OK}, {annot(nestType(api.MaxDeep + 1)), api.ErrDeep}, {one(api.Pair, "", annot(nestType(300)), v("")), api.ErrArg},
		{object("", member(api.Method, "m", "", nest(api.MaxDeep-2))), api.OK}, {object("", member(api.Method, "m", "", nest(api.MaxDeep-1))), api.ErrDeep},
		{object("", api.Member{Kind: api.Virtual, Name: "m", Types: []ty{nestType(api.MaxDeep)}}), api.OK},
		{object("", api.Member{Kind: api.Virtual, Name: "m", Types: []ty{nestType(api.MaxDeep + 1)}}), api.ErrDeep},
		{nest(1000000), api.ErrDeep},
	} {
		if got := tree.Check(c.e); got != c.want {
			t.Error(i, got)
		}
	}
	deep := ty{Kind: api.TCon, S: "*", Args: []ty{nestType(1000000), {}}}
	if tree.CheckType(deep) != api.ErrArg || tree.CheckType(nestType(1000000)) != api.ErrDeep || tree.CheckType(nestType(api.MaxDeep)) != api.OK {
		t.Error("types")
	}
}

// P2.1: sizes and depths.
func TestSizeAndDeep(t *testing.T) {
	call := one(api.App, "", one(api.App, "", v("f"), v("x")), v("y"))
	for i, c := range []struct {
		e          ex
		size, deep int
	}{
		{v("x"), 1, 1}, {call, 5, 3}, {ex{}, 1, 1}, {object("s"), 1, 1}, {object("s", member(api.Inherit, "c", "")), 2, 2},
		{object("s", member(api.Inherit, "c", "", call, v("x")), member(api.Method, "m", "", one1)), 10, 5},
		{ex{Kind: 99, Args: []ex{call}, Members: []api.Member{{Args: []ex{call}}}}, 12, 5},
		{ex{Kind: api.Annot, Types: []ty{nestType(9)}, Args: []ex{one1}}, 2, 2}, {nest(500000), 500000, 500000},
	} {
		if tree.Size(c.e) != c.size || tree.Deep(c.e) != c.deep {
			t.Error(i, tree.Size(c.e), tree.Deep(c.e))
		}
	}
}

// P2.1, P2.4: what is the same.
func TestSame(t *testing.T) {
	l := good()
	for i, e := range good() {
		for j := range l {
			if tree.Same(e, l[j]) != (i == j) {
				t.Error(i, j)
			}
		}
		for j, x := range changed(e) {
			if tree.Same(e, x) || tree.Same(x, e) || !tree.Same(x, x) {
				t.Error("changed", i, j)
			}
		}
	}
	a := object("s", member(api.Inherit, "c", "p", one1), api.Member{Kind: api.Virtual, Name: "m", Types: []ty{tInt}})
	for i, f := range []func(m []api.Member){
		func(m []api.Member) { m[0].Kind = api.Val }, func(m []api.Member) { m[0].Name = "d" }, func(m []api.Member) { m[0].As = "" },
		func(m []api.Member) { m[0].Args = nil }, func(m []api.Member) { m[0].Args = []ex{v("x")} }, func(m []api.Member) { m[1].Types = nil },
		func(m []api.Member) { m[1].Types = []ty{{Kind: api.TVar, S: "a"}} },
	} {
		b := object("s", append([]api.Member{}, a.Members...)...)
		if !tree.Same(a, b) {
			t.Error("copy", i)
		}
		f(b.Members)
		if tree.Same(a, b) || tree.Same(b, a) {
			t.Error("member", i)
		}
	}
	if !tree.Same(ex{Args: []ex{}, Names: []string{}, Types: []ty{}, Members: []api.Member{}}, ex{}) || !tree.Same(nest(500000), nest(500000)) || tree.Same(nest(500000), nest(500001)) {
		t.Error("empty, deep")
	}
}

// P2.1: types that are the same.
func TestSameType(t *testing.T) {
	l := []ty{{}, tInt, {Kind: api.TVar, S: "int"}, {Kind: api.TObj}, {Kind: api.TObj, Open: true}, {Kind: api.TObj, Labels: []string{"a"}}, {Kind: api.TObj, Args: []ty{tInt}},
		{Kind: api.TObj, Labels: []string{"a"}, Args: []ty{tInt}}, {Kind: api.TObj, Labels: []string{"b"}, Args: []ty{tInt}}, {Kind: api.TObj, Labels: []string{"a"}, Args: []ty{{}}}}
	for i := range l {
		for j := range l {
			if tree.SameType(l[i], l[j]) != (i == j) {
				t.Error(i, j)
			}
		}
	}
	if !tree.SameType(ty{Args: []ty{}, Labels: []string{}}, ty{}) || !tree.SameType(nestType(500000), nestType(500000)) {
		t.Error("empty, deep")
	}
}

// P2.3: values.
func TestValue(t *testing.T) {
	pair := func(a, b ex) ex { return one(api.Pair, "", a, b) }
	annot := func(a ex) ex { return ex{Kind: api.Annot, Types: []ty{tInt}, Args: []ex{a}} }
	call := one(api.App, "", v("f"), v("x"))
	for i, c := range []struct {
		e    ex
		want bool
	}{
		{v("x"), true}, {one1, true}, {ex{Kind: api.Bool}, true}, {ex{Kind: api.Text}, true}, {ex{Kind: api.Unit}, true}, {one(api.Fun, "x", call), true},
		{pair(one1, annot(v("x"))), true}, {annot(pair(one1, one1)), true}, {pair(one1, call), false}, {pair(call, one1), false}, {annot(call), false},
		{call, false}, {object(""), false}, {one(api.Let, "x", one1, one1), false}, {ex{Kind: api.Coerce, Types: []ty{tInt, tInt}, Args: []ex{one1}}, false},
		{one(api.New, "c"), false}, {one(api.Seq, "", one1, one1), false}, {ex{}, false}, {ex{Kind: api.Pair}, false}, {ex{Kind: api.Annot}, false},
	} {
		if tree.Value(c.e) != c.want {
			t.Error(i)
		}
	}
	e := one1
	for range 500000 {
		e = annot(e)
	}
	if !tree.Value(e) {
		t.Error("deep")
	}
}

// P2.4: parts of what may be may be, and the same has one size.
func TestParts(t *testing.T) {
	for i, e := range good() {
		for _, a := range e.Args {
			if tree.Check(a) != api.OK || tree.Size(a) >= tree.Size(e) || tree.Deep(a) >= tree.Deep(e) {
				t.Error(i)
			}
		}
	}
}
