package tree

import (
	"math"

	"trefoil/api"
	"trefoil/lex"
)

// What a text S may be.
const (
	none    = iota // empty
	aName          // a name
	perhaps        // a name, or empty
	anOp           // an operation
	aText          // anything that isn't too long
)

// many is a number of parts that isn't laid down.
const many = -1

// shape is what an expression has; whatever it doesn't tell is zero.
type shape struct {
	s           int
	most        int64 // the greatest N
	args, types int
	rec         bool // its first part is a Fun
	names       bool // a name for each Arg
	members     bool
}

// shapeOf is what an expression of a kind has, false if there is no such kind.
func shapeOf(kind int) (shape, bool) {
	var n shape
	switch kind {
	case api.Num:
		n.most = math.MaxInt64
	case api.Bool:
		n.most = 1
	case api.Text:
		n.s = aText
	case api.Unit:
	case api.Fun, api.Send, api.Set:
		n.args = 1
		fallthrough
	case api.Var:
		n.s = aName
	case api.Rec:
		n.rec = true
		fallthrough
	case api.Let:
		n.s = aName
		fallthrough
	case api.App, api.Pair, api.Seq:
		n.args = 2
	case api.If:
		n.args = 3
	case api.Op:
		n.s, n.args = anOp, 2
	case api.Object:
		n.s, n.members = perhaps, true
	case api.New:
		n.s, n.args = aName, many
	case api.Clone:
		n.names, n.args = true, many
	case api.Coerce:
		n.types++
		fallthrough
	case api.Annot:
		n.types++
		n.args = 1
	default:
		return n, false
	}
	return n, true
}

// fits says whether a part has what its kind has, its own parts apart, and which types it has.
func fits(p part) ([]api.Type, bool) {
	if p.m != nil {
		return p.m.Types, fitsMember(p.m)
	}
	e := p.e
	n, ok := shapeOf(e.Kind)
	if !ok || !fitsText(n.s, e.S) || e.N < 0 || e.N > n.most || !n.members && len(e.Members) > 0 {
		return nil, false
	}
	if n.args != many && len(e.Args) != n.args || len(e.Types) != n.types {
		return nil, false
	}
	if n.rec && e.Args[0].Kind != api.Fun {
		return nil, false
	}
	return e.Types, n.names && len(e.Names) == len(e.Args) && allNames(e.Names) || !n.names && len(e.Names) == 0
}

func fitsText(sort int, s string) bool {
	switch sort {
	case perhaps:
		if s == "" {
			return true
		}
		fallthrough
	case aName:
		return lex.IsName(s)
	case anOp:
		return s == "+" || s == "-" || s == "*" || s == "/" || s == "=" || s == "<"
	case aText:
		return len(s) <= api.MaxText
	}
	return s == ""
}

func fitsMember(m *api.Member) bool {
	if !lex.IsName(m.Name) {
		return false
	}
	switch m.Kind {
	case api.Inherit:
		return fitsText(perhaps, m.As) && len(m.Types) == 0
	case api.Val, api.Method:
		return m.As == "" && len(m.Args) == 1 && len(m.Types) == 0
	case api.Virtual:
		return m.As == "" && len(m.Args) == 0 && len(m.Types) == 1
	}
	return false
}

func allNames(l []string) bool {
	for _, s := range l {
		if !lex.IsName(s) {
			return false
		}
	}
	return true
}

// fitsType says whether a type has what its kind has, its parts apart.
func fitsType(t *api.Type) bool {
	if t.Kind != api.TObj && (t.Open || len(t.Labels) > 0) {
		return false
	}
	switch t.Kind {
	case api.TAs:
		return len(t.Args) == 1 && isWord(t.S)
	case api.TVar:
		return len(t.Args) == 0 && isWord(t.S)
	case api.TCon:
		switch t.S {
		case "int", "bool", "string", "unit":
			return len(t.Args) == 0
		case "->", "*":
			return len(t.Args) == 2
		}
	case api.TObj:
		return t.S == "" && len(t.Args) == len(t.Labels) && rising(t.Labels)
	}
	return false
}

func isWord(s string) bool { return lex.IsName(s) || lex.IsKey(s) }

// rising says whether all are names, each one greater than the one ahead of it.
func rising(l []string) bool {
	for i := range l {
		if i > 0 && l[i-1] >= l[i] {
			return false
		}
	}
	return allNames(l)
}
