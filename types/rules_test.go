package types

import (
	"math"
	"slices"
	"strings"
	"sync"
	"testing"

	"runnel/api"
)

// saying is what all calls say of a tree.
type saying struct {
	place    int
	errno    api.Errno
	numbers  []int
	channels []string
}

func (s saying) same(other saying) bool {
	return s.place == other.place && s.errno == other.errno && slices.Equal(s.numbers, other.numbers) && slices.Equal(s.channels, other.channels)
}

func said(x api.Tree) saying {
	s := saying{channels: Channels(x), numbers: []int{Main(x)}}
	s.place, s.errno = Check(x)
	for place := -1; place <= len(x.Nodes); place++ {
		plain := 0
		if Plain(x, place) {
			plain = 1
		}
		s.numbers = append(s.numbers, Owner(x, place), plain, Type(x, place))
		for _, name := range []string{"a", "x", "beyond"} {
			s.numbers = append(s.numbers, Lookup(x, place, name), Procedure(x, name))
		}
	}
	return s
}

// samples are trees of all sorts: programs with errors and without, and what is no program.
func samples(t *testing.T) []api.Tree {
	g := newGrow(31)
	x := whole(t)
	out := []api.Tree{{}, x, parsed(t, sampleText), parsed(t, ""), {Nodes: x.Nodes, Root: 3}, over(api.Program, "", leaf(api.Var, "x", 0))}
	for i := range 10 {
		y := g.program(1 + i%4)
		z := copied(y)
		g.spoil(&z)
		out = append(out, y, z)
	}
	return out
}

// TestTotality covers P1 and P7 of the document: no tree makes a call panic, whatever its numbers are.
func TestTotality(t *testing.T) {
	g := newGrow(32)
	odd := func() int {
		return []int{math.MinInt, -1, 0, 1, 2, 3, g.Intn(30), g.Intn(30), 4000, 1 << 31, math.MaxInt}[g.Intn(11)]
	}
	texts := append(slices.Clone(pool), "", "-", "==", "\x00", "é", "var", strings.Repeat("x", 1<<12))
	for range 20000 {
		x := api.Tree{Nodes: make([]api.Node, g.Intn(6)), Root: odd()}
		if g.Intn(4) > 0 {
			x.Root = len(x.Nodes) - 1
		}
		for i := range x.Nodes {
			x.Nodes[i] = api.Node{Kind: odd(), N: odd(), At: odd(), Text: texts[g.Intn(len(texts))]}
			for range g.Intn(3) {
				x.Nodes[i].Kids = append(x.Nodes[i].Kids, odd())
			}
		}
		place, e := Check(x)
		if wantPlace, want := newModel(x).check(); place != wantPlace || e != want {
			t.Fatalf("%d, %v of %v", place, e, x)
		}
		at, name := odd(), texts[g.Intn(len(texts))]
		m := newModel(x)
		if Owner(x, at) != m.owner(at) || Lookup(x, at, name) != m.lookup(at, name) || Plain(x, at) != m.plain(at) || letter(Type(x, at)) != m.typed(at)[:1] || Procedure(x, name) != m.procedure(name) {
			t.Fatalf("another answer at %d of %v", at, x)
		}
		if len(Channels(x)) > 0 && e == api.ErrArg || Main(x) != m.procedure("main") {
			t.Fatalf("%v", x)
		}
	}
	wantNothing(t, "a million nodes", api.Tree{Nodes: make([]api.Node, 1<<20), Root: 1<<20 - 1})
	wantNothing(t, "a million kids", api.Tree{Nodes: []api.Node{{Kind: api.Program, Kids: make([]int, 1<<20)}}})
	wantNothing(t, "a name of a million bytes", over(api.Program, "", leaf(api.Global, strings.Repeat("x", 1<<20), api.Int)))
}

// TestArgumentsStay covers P3 of the document: nothing of a tree is changed, within its length or beyond it, and nothing beyond it is read.
func TestArgumentsStay(t *testing.T) {
	for _, x := range samples(t) {
		want := said(x)
		beyond := []api.Node{{Kind: api.Proc, Text: "beyond", N: api.Int}, {Kind: api.Program, Kids: []int{len(x.Nodes)}}}
		nodes := append(copied(x).Nodes, beyond...)
		for i := range x.Nodes {
			kids := append(nodes[i].Kids, math.MinInt, math.MaxInt)
			nodes[i].Kids = kids[:len(kids)-2]
		}
		before := copied(api.Tree{Nodes: nodes})
		if got := said(api.Tree{Nodes: nodes[:len(x.Nodes)], Root: x.Root}); !got.same(want) {
			t.Fatalf("%v, not %v", got, want)
		}
		if !equal(api.Tree{Nodes: nodes}, before) {
			t.Fatal("a tree is changed")
		}
		for i := range x.Nodes {
			kids := nodes[i].Kids
			if rest := kids[len(kids) : len(kids)+2]; rest[0] != math.MinInt || rest[1] != math.MaxInt {
				t.Fatal("a list is changed beyond its end")
			}
		}
	}
}

// TestSameAnswers covers P4 of the document: the same call answers the same, whatever was asked in between, and of a copy too.
func TestSameAnswers(t *testing.T) {
	trees := samples(t)
	first := make([]saying, len(trees))
	for i, x := range trees {
		first[i] = said(x)
		if !said(x).same(first[i]) || !said(copied(x)).same(first[i]) {
			t.Errorf("tree %d: another answer", i)
		}
	}
	for i, x := range slices.Backward(trees) {
		if !said(x).same(first[i]) {
			t.Errorf("tree %d: another answer behind others", i)
		}
	}
	var wait sync.WaitGroup
	again := make([]saying, len(trees))
	for i, x := range trees {
		wait.Go(func() { again[i] = said(x) })
	}
	wait.Wait()
	for i := range trees {
		if !again[i].same(first[i]) {
			t.Errorf("tree %d: another answer beside others", i)
		}
	}
}

// TestNothingIsKept covers P3 and P4 of the document: a tree that has changed since is asked anew, and what was answered stays as it was.
func TestNothingIsKept(t *testing.T) {
	x := parsed(t, "var x int; proc main() { out lo x; out hi x; }")
	channels := Channels(x)
	if place, e := Check(x); place != 0 || e != api.OK || Type(x, 2) != api.Int {
		t.Fatal(place, e)
	}
	x.Nodes[0].N, x.Nodes[1].Text = api.Bool, "zz"
	if place, e := Check(x); place != 3 || e != api.ErrType || Type(x, 2) != api.Bool {
		t.Error(place, e)
	}
	x.Nodes[0].Text, x.Nodes[8].Text = "y", "start"
	if place, e := Check(x); place != 2 || e != api.ErrName || Lookup(x, 2, "x") != -1 || Lookup(x, 2, "y") != 0 || Main(x) != -1 || Procedure(x, "start") != 8 {
		t.Error(place, e)
	}
	if !slices.Equal(channels, []string{"hi", "lo"}) || !slices.Equal(Channels(x), []string{"hi", "zz"}) {
		t.Error(channels, Channels(x))
	}
	// A list that was answered is the caller's own.
	channels = Channels(x)
	channels[0], channels[1] = "other", "other"
	if got := Channels(x); !slices.Equal(got, []string{"hi", "zz"}) {
		t.Error(got)
	}
}

// TestOffsetsDoNotMatter: At of a node says nothing about what a name denotes.
func TestOffsetsDoNotMatter(t *testing.T) {
	for _, x := range samples(t) {
		y := copied(x)
		for i := range y.Nodes {
			y.Nodes[i].At = []int{-1, math.MinInt, math.MaxInt, 20001, -i}[i%5]
		}
		if !said(y).same(said(x)) {
			t.Fatal(y)
		}
	}
}

// TestEmptyAndNilKids covers P5 of the document: a node without children may have a nil list or an empty one.
func TestEmptyAndNilKids(t *testing.T) {
	x := whole(t)
	for _, list := range [][]int{nil, {}, make([]int, 0, 9)} {
		y := copied(x)
		for i := range y.Nodes {
			if len(y.Nodes[i].Kids) == 0 {
				y.Nodes[i].Kids = list
			}
		}
		if !said(y).same(said(x)) {
			t.Error(list)
		}
	}
}

// TestWaysMap: names are stored in maps to what they denote, the first of each name.
func TestWaysMap(t *testing.T) {
	p := read(parsed(t, "var x int; var x int; proc f(x int, y int) { var y int; } proc f() { var x int; }"))
	want := map[scoped]int{{-1, "x"}: 0, {6, "x"}: 2, {6, "y"}: 3, {9, "x"}: 7}
	if len(p.declared) != len(want) || len(p.procedures) != 1 || p.procedures["f"] != 6 {
		t.Error(p.declared, p.procedures)
	}
	for name, place := range want {
		if got, ok := p.declared[name]; !ok || got != place {
			t.Error(name, got, ok)
		}
	}
	if p = read(api.Tree{}); len(p.declared) != 0 || len(p.procedures) != 0 {
		t.Error(p.declared, p.procedures)
	}
}
