package typ

import (
	"strings"

	"trefoil/api"
	"trefoil/tree"
)

// Where a part of a type may stand.
const (
	whole = iota // by itself, or right within an as
	field        // an object's, or the right side of an arrow
	left         // the left side of an arrow, or the right one of a product
	tight        // the left side of a product
)

// Put is a type as a text.
func Put(t api.Type) (string, api.Errno) {
	if e := tree.CheckType(t); e != api.OK {
		return "", e
	}
	var b strings.Builder
	put(&b, &t, whole)
	return b.String(), api.OK
}

// level is the tightest place where a type stands without brackets.
func level(t *api.Type) int {
	switch {
	case t.Kind == api.TAs:
		return whole
	case t.Kind == api.TCon && t.S == "->":
		return field
	case t.Kind == api.TCon && t.S == "*":
		return left
	}
	return tight
}

func put(b *strings.Builder, t *api.Type, place int) {
	if level(t) < place {
		b.WriteString("(")
		defer b.WriteString(")")
	}
	switch t.Kind {
	case api.TObj:
		putObject(b, t)
	case api.TCon:
		putCon(b, t)
	case api.TAs:
		put(b, &t.Args[0], whole)
		b.WriteString(" as ")
		fallthrough
	case api.TVar:
		b.WriteString("'")
		b.WriteString(t.S)
	}
}

func putCon(b *strings.Builder, t *api.Type) {
	if len(t.Args) == 0 {
		b.WriteString(t.S)
		return
	}
	own := level(t)
	put(b, &t.Args[0], own+1)
	b.WriteString(" " + t.S + " ")
	put(b, &t.Args[1], own)
}

func putObject(b *strings.Builder, t *api.Type) {
	b.WriteString("< ")
	for i, s := range t.Labels {
		if i > 0 {
			b.WriteString("; ")
		}
		b.WriteString(s + " : ")
		put(b, &t.Args[i], field)
		b.WriteString(" ")
	}
	if t.Open {
		if len(t.Labels) > 0 {
			b.WriteString("; ")
		}
		b.WriteString(".. ")
	}
	b.WriteString(">")
}
