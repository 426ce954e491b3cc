package types

import (
	"testing"

	"runnel/api"
	"runnel/tree"
)

// TestRandomRight: programs without an error, of all kinds of nodes; and what follows for them, C4.
func TestRandomRight(t *testing.T) {
	g, kinds := newGrow(1), map[int]int{}
	for i := range 500 {
		x := g.program(1 + i%6)
		if !tree.Right(x) {
			t.Fatal("the test makes a program that is not valid")
		}
		if place, e := Check(x); e != api.OK || place != 0 {
			t.Fatal(place, e, x)
		}
		if i%3 == 0 {
			hold(t, x, "nothing")
		}
		holdC4(t, x)
		for _, n := range x.Nodes {
			kinds[n.Kind]++
		}
	}
	for kind := api.Program; kind <= api.Binary; kind++ {
		if kinds[kind] < 80 {
			t.Error("too few nodes of a kind", kind, kinds[kind])
		}
	}
}

// holdC4 holds an accepted program against C4.
func holdC4(t *testing.T, x api.Tree) {
	t.Helper()
	for place, n := range x.Nodes {
		switch n.Kind {
		case api.Var, api.Index, api.Length:
			if Lookup(x, place, n.Text) < 0 {
				t.Fatalf("at %d, nothing declares %q: %v", place, n.Text, x)
			}
		case api.Ref:
			if Lookup(x, place, n.Text) < 0 && Procedure(x, n.Text) < 0 {
				t.Fatalf("at %d, nothing is %q: %v", place, n.Text, x)
			}
		}
	}
}

// TestRandomFaults: programs with one thing changed, and with more.
func TestRandomFaults(t *testing.T) {
	type found struct {
		kind  int
		errno api.Errno
	}
	g, seen := newGrow(2), map[found]int{}
	for i := range 5000 {
		x := g.program(1 + i%5)
		for range 1 + i%7/3 {
			g.spoil(&x)
		}
		if !tree.Right(x) {
			t.Fatal("the test makes a program that is not valid")
		}
		place, e := Check(x)
		if wantPlace, want := newModel(x).check(); place != wantPlace || e != want {
			t.Fatalf("Check is %d, %v, not %d, %v, of %v", place, e, wantPlace, want, x)
		}
		if i%40 == 0 {
			hold(t, x, "nothing")
		}
		if e != api.OK {
			seen[found{x.Nodes[place].Kind, e}]++
			continue
		}
		seen[found{}]++
		if i%4 == 0 {
			holdC4(t, x)
		}
	}
	for _, f := range []found{
		{}, {api.Program, api.ErrMain}, {api.Global, api.ErrThere}, {api.Proc, api.ErrThere}, {api.Param, api.ErrThere}, {api.Local, api.ErrThere},
		{api.Var, api.ErrName}, {api.Index, api.ErrName}, {api.Length, api.ErrName}, {api.Index, api.ErrType}, {api.Length, api.ErrType},
		{api.Addr, api.ErrName}, {api.Addr, api.ErrType}, {api.Unary, api.ErrType}, {api.Binary, api.ErrType},
		{api.Assign, api.ErrName}, {api.Assign, api.ErrType}, {api.Store, api.ErrName}, {api.Store, api.ErrType}, {api.New, api.ErrName}, {api.New, api.ErrType},
		{api.In, api.ErrName}, {api.In, api.ErrType}, {api.Try, api.ErrName}, {api.Try, api.ErrType}, {api.Out, api.ErrType}, {api.Throw, api.ErrType},
		{api.If, api.ErrType}, {api.While, api.ErrType}, {api.Call, api.ErrName}, {api.Call, api.ErrType}, {api.Return, api.ErrType},
	} {
		if seen[f] < 5 {
			t.Error("seen too rarely", f, seen[f])
		}
	}
}
