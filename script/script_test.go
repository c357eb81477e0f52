package script_test

import (
	"maps"
	"slices"
	"strings"
	"testing"

	"trefoil/api"
	"trefoil/script"
	"trefoil/top"
)

const much = 100000

const talk = `let x = 1
x + 1
 	
class c v = object val v = v method get = v end
(new c x)#get

let x = (* a note *) x + true
gone
let rec loop x = loop x
loop 1
1 / 0
(1
new c`

// P21.1: lines, as they stand.
func TestLines(t *testing.T) {
	for text, want := range map[string][]string{
		"": nil, "\n\n \n\t\r\n": nil, "a": {"a"}, "a\n": {"a"}, "a\nb": {"a", "b"}, " a \r\n\nb\n ": {" a \r", "b"}, "(* a\n*)": {"(* a", "*)"}, "\v\n\f": {"\v", "\f"}, "\x00\n\xa0": {"\x00", "\xa0"},
	} {
		if got := script.Lines(text); !slices.Equal(got, want) {
			t.Errorf("%q: %q", text, got)
		}
	}
}

// P21.1, P21.3: answers.
func TestRun(t *testing.T) {
	want := []string{"val x : int = 1", "- : int = 2", "class c : 'a -> < v : 'a > * < get : 'a ; .. >", "- : int = 1", "type", "scope gone", "val loop : 'a -> 'b = <fun>", "fuel", "zero", "syntax 2", "type"}
	if got := script.Run(talk, much, much); !slices.Equal(got, want) {
		t.Errorf("%q", got)
	}
	if s, e := script.Tell(talk, much, much); e != api.OK || s != strings.Join(want, "\n")+"\n" {
		t.Errorf("%q", s)
	}
	values, classes := script.Names(talk, much, much)
	if strings.Join(values, " ") != "fst loop not snd x" || strings.Join(classes, " ") != "c" {
		t.Error(values, classes)
	}
	if got := script.Run("1\n\n1 1\n)", 0, 0); strings.Join(got, ",") != "argument,argument,syntax 0" {
		t.Error(got)
	}
	if values, classes := script.Names("", -1, -1); len(values) != 3 || len(classes) != 0 {
		t.Error(values, classes)
	}
}

// P21.3: how long a text may be.
func TestTell(t *testing.T) {
	long := strings.Repeat("1\n", api.MaxText/2)
	if s, e := script.Tell(long, 1000, 1); e != api.OK || len(s) != len("- : int = 1\n")*api.MaxText/2 {
		t.Error(e, len(s))
	}
	if s, e := script.Tell(long+" ", 1000, 1); e != api.ErrLong || s != "" {
		t.Error(e)
	}
	if l := script.Run(long+" \n1", 1000, 1); len(l) != api.MaxText/2+1 {
		t.Error(len(l))
	}
	if s, e := script.Tell("", 0, 0); s != "" || e != api.OK {
		t.Error(s, e)
	}
}

// P21.2: counts.
func TestCount(t *testing.T) {
	for i, c := range []struct {
		l    []string
		want map[string]int
	}{
		{nil, nil}, {script.Run(talk, much, much), map[string]int{"val": 2, "-": 2, "class": 1, "type": 2, "scope": 1, "fuel": 1, "zero": 1, "syntax": 1}}, {[]string{"budget", "deep", "stuck", "argument", "budget"}, map[string]int{"budget": 2, "deep": 1, "stuck": 1, "argument": 1}},
		{[]string{"", " val", "value", "val\t", "vals x", "Type", "-:", "class\n", "val "}, map[string]int{"val": 1}}, {[]string{"type x y", "- "}, map[string]int{"type": 1, "-": 1}},
	} {
		if got := script.Count(c.l); !maps.Equal(got, c.want) {
			t.Error(i, got)
		}
	}
}

// P21.4: a script in two parts is answered as the whole; lines without a phrase change nothing.
func TestParts(t *testing.T) {
	whole := script.Run(talk, much, much)
	lines := script.Lines(talk)
	for cut := range len(lines) + 1 {
		s := top.New()
		var got []string
		for _, part := range [][]string{lines[:cut], lines[cut:]} {
			for _, line := range script.Lines("\n\t\n" + strings.Join(part, "\n \n") + "\n\r\n") {
				got = append(got, s.Do(line, much, much))
			}
		}
		if !slices.Equal(got, whole) {
			t.Error(cut, got)
		}
	}
	if got := script.Run(strings.ReplaceAll(talk, "\n", "\n\n \n"), much, much); !slices.Equal(got, whole) {
		t.Error(got)
	}
}
