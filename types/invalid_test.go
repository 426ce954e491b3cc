package types

import (
	"math"
	"slices"
	"strings"
	"testing"

	"runnel/api"
	"runnel/tree"
)

// wantNothing wants that no call says anything of a tree that is not valid, at any of some places.
func wantNothing(t *testing.T, why string, x api.Tree) {
	t.Helper()
	if tree.Right(x) {
		t.Fatalf("%s: the tree is valid", why)
	}
	if place, e := Check(x); place != 0 || e != api.ErrArg {
		t.Errorf("%s: Check is %d, %v", why, place, e)
	}
	names := []string{"", "f", "x", "g", "main", "nil"}
	for _, place := range append(slices.Clone(outside), 0, 1, 2, 3, 5, 8, x.Root-1, x.Root, len(x.Nodes)-1, len(x.Nodes)) {
		for _, name := range names {
			if got := Lookup(x, place, name); got != -1 {
				t.Errorf("%s: Lookup of %q at %d is %d", why, name, place, got)
			}
		}
		if owner, plain, kind := Owner(x, place), Plain(x, place), Type(x, place); owner != -1 || plain || kind != 0 {
			t.Errorf("%s: at %d, Owner is %d, Plain %v, Type %d", why, place, owner, plain, kind)
		}
	}
	for _, name := range names {
		if got := Procedure(x, name); got != -1 {
			t.Errorf("%s: Procedure %q is %d", why, name, got)
		}
	}
	if got := Main(x); got != -1 {
		t.Errorf("%s: Main is %d", why, got)
	}
	if got := Channels(x); len(got) != 0 {
		t.Errorf("%s: Channels are %q", why, got)
	}
}

// whole is a program without an error in which each kind has a node, and each call says something.
func whole(t *testing.T) api.Tree {
	t.Helper()
	x := parsed(t, `var g int; proc f(x int) int { return x; }
proc main() { var x int; var a arr; var u fun; x = -1; a = new 2; a[0] = g; x = in hi; out lo a[1]; u = &f;
if true { call u(len a); } while x < 1 { throw x; } try { return; } catch x { x = call f(g); } }`)
	if _, e := Check(x); e != api.OK || len(Channels(x)) != 2 || Main(x) < 0 || Procedure(x, "f") < 0 {
		t.Fatal(e)
	}
	for kind := api.Program; kind <= api.Binary; kind++ {
		if !slices.ContainsFunc(x.Nodes, func(n api.Node) bool { return n.Kind == kind }) {
			t.Fatal(kind)
		}
	}
	return x
}

// TestC1C2NotSound: trees whose nodes do not stand as they must.
func TestC1C2NotSound(t *testing.T) {
	x := whole(t)
	last := len(x.Nodes) - 1
	for why, y := range map[string]api.Tree{
		"no nodes":                {},
		"no nodes and a root":     {Root: 1},
		"an empty list of nodes":  {Nodes: []api.Node{}},
		"a node of no kind":       {Nodes: []api.Node{{}}},
		"a root ahead of the end": {Nodes: x.Nodes, Root: last - 1},
		"a root at 0":             {Nodes: x.Nodes},
		"a root ahead of all":     {Nodes: x.Nodes, Root: -1},
		"a root behind all":       {Nodes: x.Nodes, Root: last + 1},
		"a root far ahead":        {Nodes: x.Nodes, Root: math.MinInt},
		"a root far behind":       {Nodes: x.Nodes, Root: math.MaxInt},
		"without the last node":   {Nodes: x.Nodes[:last], Root: last - 1},
		"without the first node":  {Nodes: x.Nodes[1:], Root: last - 1},
	} {
		wantNothing(t, why, y)
	}
	for why, change := range map[string]func(list []int) []int{
		"none":                  func(list []int) []int { return nil },
		"the first is missing":  func(list []int) []int { return list[1:] },
		"the last is missing":   func(list []int) []int { return list[:len(list)-1] },
		"the last is twice":     func(list []int) []int { return append(list, last-1) },
		"the root is one":       func(list []int) []int { return append(list, last) },
		"one is ahead of all":   func(list []int) []int { return append([]int{-1}, list...) },
		"one is far ahead":      func(list []int) []int { return append([]int{math.MinInt}, list...) },
		"one is far behind":     func(list []int) []int { return append(list, math.MaxInt) },
		"the first is the last": func(list []int) []int { return append(list[1:], list[0]) },
	} {
		y := copied(x)
		y.Nodes[last].Kids = change(y.Nodes[last].Kids)
		wantNothing(t, "the kids of the root: "+why, y)
	}
	y := copied(x)
	y.Nodes[0].Kids = []int{0}
	wantNothing(t, "a node is its own child", y)
	y = copied(x)
	y.Nodes[0].Kids = []int{last}
	wantNothing(t, "the root is the child of another", y)
}

// TestC1C2NotShaped: trees whose nodes stand as they must, one of which has not its shape.
func TestC1C2NotShaped(t *testing.T) {
	in := func(statement api.Tree) api.Tree {
		return over(api.Program, "", leaf(api.Global, "x", api.Int), over(api.Proc, "f", over(api.Block, "", statement)), over(api.Proc, "main", over(api.Block, "")))
	}
	one := leaf(api.Const, "", 1)
	assign := over(api.Assign, "x", one)
	if place, e := Check(in(assign)); place != 0 || e != api.OK {
		t.Fatal(place, e)
	}
	for why, x := range map[string]api.Tree{
		"a Proc as the root":       over(api.Proc, "main", over(api.Block, "")),
		"a statement as the root":  assign,
		"an expression as root":    one,
		"a Program in a Program":   over(api.Program, "", in(assign)),
		"a Global behind a Proc":   over(api.Program, "", over(api.Proc, "main", over(api.Block, "")), leaf(api.Global, "x", api.Int)),
		"a Global of no type":      over(api.Program, "", leaf(api.Global, "x", 0), over(api.Proc, "main", over(api.Block, ""))),
		"a Global of a fifth type": over(api.Program, "", leaf(api.Global, "x", 5), over(api.Proc, "main", over(api.Block, ""))),
		"a Proc without a Block":   over(api.Program, "", over(api.Proc, "main")),
		"a Proc of a fifth type":   over(api.Program, "", tree.Over(api.Node{Kind: api.Proc, Text: "main", N: 5}, []api.Tree{over(api.Block, "")})),
		"a Param behind a Local":   over(api.Program, "", over(api.Proc, "main", leaf(api.Local, "x", 1), leaf(api.Param, "y", 1), over(api.Block, ""))),
		"a Call of nothing":        in(over(api.Call, "")),
		"a Call of a Var":          in(over(api.Call, "", leaf(api.Var, "f", 0))),
		"an Assign of nothing":     in(over(api.Assign, "x")),
		"an Assign of a statement": in(over(api.Assign, "x", assign)),
		"a Return of two":          in(over(api.Return, "", one, one)),
		"an Out without a value":   in(over(api.Out, "", leaf(api.Chan, "lo", 0))),
		"an Out without a Chan":    in(over(api.Out, "", one)),
		"a Store of one value":     in(over(api.Store, "x", one)),
		"an If without a Block":    in(over(api.If, "", one)),
		"a name that is a keyword": in(over(api.Assign, "var", one)),
		"a name of 21 bytes":       in(over(api.Assign, strings.Repeat("x", 21), one)),
		"an operator there isn't":  in(over(api.Assign, "x", over(api.Binary, "=", one, one))),
		"a Unary of a plus":        in(over(api.Assign, "x", over(api.Unary, "+", one))),
		"a Truth of 2":             in(over(api.Assign, "x", leaf(api.Truth, "", 2))),
		"a negative Const":         in(over(api.Assign, "x", leaf(api.Const, "", -1))),
		"a kind ahead of all":      in(leaf(0, "", 0)),
		"a kind behind all":        in(over(api.Throw, "", leaf(28, "", 0))),
	} {
		wantNothing(t, why, x)
	}
}

// TestOneThingChanged: of a program with one field of one node changed, either nothing is told or what the model tells.
func TestOneThingChanged(t *testing.T) {
	x := whole(t)
	valid, seen := 0, map[api.Errno]int{}
	try := func(place int, change func(n *api.Node)) {
		y := copied(x)
		change(&y.Nodes[place])
		if !tree.Right(y) {
			seen[api.ErrArg]++
			if seen[api.ErrArg]%10 == 0 {
				wantNothing(t, "a program with a change", y)
			}
			return
		}
		valid++
		place, e := Check(y)
		if wantPlace, want := newModel(y).check(); place != wantPlace || e != want {
			t.Fatalf("Check is %d, %v, not %d, %v, of %v", place, e, wantPlace, want, y)
		}
		seen[e]++
		if valid%50 == 0 {
			hold(t, y, "nil")
		}
	}
	for place := range x.Nodes {
		for _, text := range []string{"", "x", "a", "u", "g", "f", "main", "nil", "-", "!", "+", "==", "<", "&&", "if", "1", " "} {
			try(place, func(n *api.Node) { n.Text = text })
		}
		for _, number := range []int{math.MinInt, -1, 0, 1, 2, 3, 4, 5, math.MaxInt} {
			try(place, func(n *api.Node) { n.N = number })
		}
		for kind := -1; kind <= 29; kind++ {
			try(place, func(n *api.Node) { n.Kind = kind })
		}
	}
	for _, e := range []api.Errno{api.OK, api.ErrArg, api.ErrName, api.ErrThere, api.ErrType, api.ErrMain} {
		if seen[e] < 5 {
			t.Error(e, seen[e])
		}
	}
}
