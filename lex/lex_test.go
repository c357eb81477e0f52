package lex_test

import (
	"math/rand"
	"strings"
	"testing"

	"trefoil/api"
	"trefoil/lex"
)

func same(a, b []api.Token) bool {
	if len(a) != len(b) {
		return false
	}
	for i := range a {
		if a[i] != b[i] {
			return false
		}
	}
	return true
}

// P1.1: what tokens a text has.
func TestLexTokens(t *testing.T) {
	end := func(at int) api.Token { return api.Token{At: at} }
	name := func(s string, at int) api.Token { return api.Token{Kind: api.Name, S: s, At: at} }
	sym := func(s string, at int) api.Token { return api.Token{Kind: api.Sym, S: s, At: at} }
	for text, want := range map[string][]api.Token{
		"":                    {end(0)},
		" \t\r\n":             {end(4)},
		"x#m":                 {name("x", 0), sym("#", 1), name("m", 2), end(3)},
		"\"a\\nb\"":           {{Kind: api.Str, S: "a\nb"}, end(6)},
		"\"a\nb\xff\"":        {{Kind: api.Str, S: "a\nb\xff"}, end(6)},
		"12ab":                {{Kind: api.Int, N: 12}, name("ab", 2), end(4)},
		"9223372036854775807": {{Kind: api.Int, N: 1<<63 - 1}, end(19)},
		"letx let":            {name("letx", 0), {Kind: api.Key, S: "let", At: 5}, end(8)},
		"'let'_A9":            {{Kind: api.Tick, S: "let"}, {Kind: api.Tick, S: "_A9", At: 4}, end(8)},
		"(**)x(*)*)":          {name("x", 4), end(10)},
		"(* (* *)y":           {name("y", 8), end(9)},
		"( *)":                {sym("(", 0), sym("*", 2), sym(")", 3), end(4)},
		"<-1":                 {sym("<-", 0), {Kind: api.Int, N: 1, At: 2}, end(3)},
		"->->>}":              {sym("->", 0), sym("->", 2), sym(">}", 4), end(6)},
		"{<>}<>":              {sym("{<", 0), sym(">}", 2), sym("<", 4), sym(">", 5), end(6)},
		":=::>,/#":            {sym(":", 0), sym("=", 1), sym(":", 2), sym(":>", 3), sym(",", 5), sym("/", 6), sym("#", 7), end(8)},
		"(*a*) (*b*)":         {end(11)},
	} {
		l, at, e := lex.Lex(text)
		if e != api.OK || at != 0 || !same(l, want) {
			t.Errorf("%q: %v %d %d", text, l, at, e)
		}
	}
	zeros := strings.Repeat("0", api.MaxText-1) + "7"
	if l, _, e := lex.Lex(zeros); e != api.OK || l[0].N != 7 {
		t.Error("zeros", e)
	}
	if l, _, e := lex.Lex(strings.Repeat("a", api.MaxName) + "'" + strings.Repeat("b", api.MaxName)); e != api.OK || len(l) != 3 {
		t.Error("long words", l, e)
	}
}

// P1.1: what is no token, and where.
func TestLexFaults(t *testing.T) {
	for text, want := range map[string]int{
		".": 0, "x .": 2, "{": 0, "}": 0, "x {x": 2, "a  X": 3, "x'": 1, "' x": 0, "'1": 0, "\x00": 0, "é": 0, "&": 0,
		"1 9223372036854775808": 2, "(*)": 0, "x (* *": 2, "(* a *) (*": 8,
		"\"\\": 0, "\"\\\"": 0, "\"\\a\"": 0, "x \"": 2, "\"\\N\"": 0,
		strings.Repeat("a", api.MaxName+1): 0, " '" + strings.Repeat("a", api.MaxName+1): 1,
	} {
		if l, at, e := lex.Lex(text); l != nil || at != want || e != api.ErrLex {
			t.Errorf("%q: %v %d %d", text, l, at, e)
		}
	}
	if l, at, e := lex.Lex(strings.Repeat("?", api.MaxText+1)); l != nil || at != 0 || e != api.ErrLong {
		t.Error("long", at, e)
	}
	if _, at, e := lex.Lex(strings.Repeat(" ", api.MaxText)); at != 0 || e != api.OK {
		t.Error("not too long", at, e)
	}
}

// P1.2: names and keys.
func TestNamesAndKeys(t *testing.T) {
	keys := strings.Fields("and as class else end false fun if in inherit let method new object rec then true val virtual")
	for _, k := range keys {
		if !lex.IsKey(k) || lex.IsName(k) || lex.IsKey(k+"_") || !lex.IsName(k+"_") {
			t.Error(k)
		}
	}
	for s, want := range map[string]bool{
		"": false, "a": true, "_": true, "A": false, "aA9_": true, "9a": false, "a-b": false, "a ": false, "'a": false, "int": true,
		strings.Repeat("z", api.MaxName): true, strings.Repeat("z", api.MaxName+1): false, "é": false, "aé": false,
	} {
		if lex.IsName(s) != want || lex.IsKey(s) {
			t.Error(s)
		}
	}
}

// P1.2: what is put, and what can't be.
func TestPut(t *testing.T) {
	fit := strings.Repeat("x", api.MaxText-2)
	for _, c := range []struct {
		t    api.Token
		want string
	}{
		{api.Token{Kind: api.Name, S: "x", At: -5}, "x"},
		{api.Token{Kind: api.Key, S: "rec"}, "rec"},
		{api.Token{Kind: api.Tick, S: "rec"}, "'rec"},
		{api.Token{Kind: api.Int}, "0"},
		{api.Token{Kind: api.Int, N: 1<<63 - 1}, "9223372036854775807"},
		{api.Token{Kind: api.Str}, "\"\""},
		{api.Token{Kind: api.Str, S: "\n\\\"\t\x80"}, "\"\\n\\\\\\\"\t\x80\""},
		{api.Token{Kind: api.Str, S: fit}, "\"" + fit + "\""},
		{api.Token{Kind: api.Sym, S: ">}"}, ">}"},
	} {
		if s, e := lex.Put(c.t); e != api.OK || s != c.want {
			t.Error(c.t, s, e)
		}
	}
	for i, bad := range []api.Token{
		{}, {Kind: -1}, {Kind: 7, S: "x"}, {Kind: api.End, At: 1}, {Kind: api.Name}, {Kind: api.Name, S: "rec"}, {Kind: api.Name, S: "X"},
		{Kind: api.Name, S: "x", N: 1}, {Kind: api.Key, S: "x"}, {Kind: api.Key, S: "rec", N: 1}, {Kind: api.Tick}, {Kind: api.Tick, S: "'a"},
		{Kind: api.Tick, S: "a", N: 2}, {Kind: api.Int, N: -1}, {Kind: api.Int, S: "1", N: 1}, {Kind: api.Str, S: "a", N: 1},
		{Kind: api.Sym}, {Kind: api.Sym, S: "."}, {Kind: api.Sym, S: "(*"},
		{Kind: api.Sym, S: "=", N: 1}, {Kind: api.Name, S: strings.Repeat("a", 101)}, {Kind: api.Tick, S: strings.Repeat("a", 101)},
	} {
		if s, e := lex.Put(bad); e != api.ErrArg || s != "" {
			t.Error(i, s, e)
		}
	}
}

// P1.3: what is put, with blanks between, is told as those tokens.
func TestPutThenLex(t *testing.T) {
	r := rand.New(rand.NewSource(1))
	all := []api.Token{{Kind: api.Name, S: "x"}, {Kind: api.Key, S: "in"}, {Kind: api.Tick, S: "as"}, {Kind: api.Int, N: 12}, {Kind: api.Str, S: "(* \" \\ \n *)"}}
	for _, s := range strings.Fields("-> <- :> .. {< >} ( ) ; : = < > + - * / , #") {
		all = append(all, api.Token{Kind: api.Sym, S: s})
	}
	blanks := []string{" ", "\t", "\n", "\r", "  ", " (* n *) "}
	for range 2000 {
		text := ""
		var want []api.Token
		for range r.Intn(12) {
			k := all[r.Intn(len(all))]
			k.At = len(text)
			want = append(want, k)
			s, _ := lex.Put(k)
			text += s + blanks[r.Intn(len(blanks))]
		}
		want = append(want, api.Token{At: len(text)})
		if l, _, e := lex.Lex(text); e != api.OK || !same(l, want) {
			t.Fatalf("%q: %v", text, l)
		}
	}
}
