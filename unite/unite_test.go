package unite

import (
	"errors"
	"testing"

	"trefoil/api"
	"trefoil/sample"
)

// store is one with the nodes of a graph at a level.
func store(level int, nodes ...api.Node) *Store {
	s := &Store{}
	s.AddGraph(sample.Graph(0, nodes...), level)
	return s
}

// What can't be one, and why.
func TestClash(t *testing.T) {
	v, con, obj := sample.Var(), sample.Con, sample.Obj
	for i, c := range []struct {
		s    *Store
		want error
	}{
		{store(0, con("int"), con("bool")), ErrNames}, {store(0, con("int"), obj(true, "")), ErrKinds}, {store(0, obj(false, "a", 2), obj(true, "b", 2), v), ErrLabels}, {store(0, obj(true, "ab", 2, 2), obj(false, "a", 2), v), ErrLabels},
		{store(0, obj(true, "ab", 2, 2), obj(false, "abc", 2, 2, 2), v), nil}, {store(0, v, con("->", 0, 1)), nil}, {store(0, con("*", 0, 1), con("*", 1, 0)), nil},
	} {
		err := c.s.Unite(0, 1)
		var clash *Clash
		if c.want == nil && err != nil || c.want != nil && (!errors.Is(err, c.want) || !errors.As(err, &clash) || err.Error() == "") {
			t.Error(i, err)
		}
	}
}

// Labels come together, whichever object has more of them.
func TestLabels(t *testing.T) {
	for _, pair := range [][2]int{{0, 1}, {1, 0}} {
		s := store(0, sample.Obj(true, "ac", 2, 2), sample.Obj(true, "b", 3), sample.Con("int"), sample.Var())
		if err := s.Unite(pair[0], pair[1]); err != nil {
			t.Fatal(err)
		}
		n := s.Node(1)
		if len(n.Labels) != 3 || n.Labels[1] != "b" || n.Args[1] != 3 || s.Least(1) != 0 || !n.Open {
			t.Error(n)
		}
		if a, ok := s.Label(0, "c"); !ok || a != 2 {
			t.Error(a, ok)
		}
		if _, ok := s.Label(0, "d"); ok {
			t.Error("d")
		}
		s.Shut(0)
		if s.Node(1).Open || s.Unite(0, s.Add(sample.Obj(true, "d", 3), 0)) == nil {
			t.Error("shut")
		}
	}
}

// A node that is made one with one of a lower level takes all that it leads to there.
func TestLevels(t *testing.T) {
	s := store(2, sample.Con("->", 1, 2), sample.Var(), sample.Con("->", 0, 3), sample.Var(), sample.Var())
	low := s.Add(sample.Var(), 1)
	if err := s.Unite(2, low); err != nil {
		t.Fatal(err)
	}
	if n, ok := s.Fresh(0, 1, 2, 100); !ok || n != 0 || s.Len() != 6 {
		t.Error("nothing is above", n, s.Len())
	}
	if n, ok := s.Fresh(4, 1, 2, 100); !ok || n != 6 || s.Len() != 7 {
		t.Error("a copy", n, s.Len())
	}
	if _, ok := s.Fresh(4, 1, 2, 0); ok || s.Len() != 7 {
		t.Error("no room")
	}
}

// What leads to no free node above a level isn't worth a copy.
func TestSettle(t *testing.T) {
	s := store(3, sample.Con("*", 1, 2), sample.Con("->", 3, 3), sample.Obj(false, "m", 4), sample.Con("int"), sample.Var())
	s.Settle(0, 2)
	n, ok := s.Fresh(0, 2, 2, 3)
	if !ok || s.Len() != 8 {
		t.Fatal(n, ok, s.Len())
	}
	g := s.Graph(n)
	if len(g.N) != 5 || s.Find(s.Node(n).Args[0]) != 1 || s.Find(s.Node(n).Args[1]) == 2 {
		t.Error(g)
	}
}
