package load

import (
	"testing"

	"trefoil/api"
	"trefoil/lex"
	"trefoil/typ"
)

func parsed(t *testing.T, text string) api.Type {
	l, _, _ := lex.Lex(text)
	x, _, e := typ.Parse(l, 0)
	if e != api.OK {
		t.Fatal(text, e)
	}
	return x
}
