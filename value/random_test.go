package value

import (
	"math"
	"math/rand"
	"slices"
	"strconv"
	"testing"

	"runnel/api"
	"runnel/types"
)

// grow makes the texts of random programs without an error, and what their expressions are evaluated with.
type grow struct{ *rand.Rand }

func newGrow(seed int64) *grow { return &grow{rand.New(rand.NewSource(seed))} }

func (g *grow) pick(from ...string) string { return from[g.Intn(len(from))] }

// program has expressions of each type, in statements of each sort.
func (g *grow) program(statements int) string {
	text := head
	for range statements {
		switch g.Intn(8) {
		case 0:
			text += "x = " + g.integer(3) + "; "
		case 1:
			text += "b = " + g.truth(3) + "; "
		case 2:
			text += g.pick("a = ", "p = ") + g.pick("a", "d", "p") + "; "
		case 3:
			text += g.pick("u = ", "h = ") + g.pick("u", "v", "h", "&f", "&late") + "; "
		case 4:
			text += "a[" + g.integer(2) + "] = " + g.integer(2) + "; "
		case 5:
			text += "if " + g.truth(3) + " { out lo " + g.integer(2) + "; } "
		case 6:
			text += "x = call f(" + g.integer(2) + "); "
		case 7:
			text += "while " + g.truth(2) + " { throw " + g.integer(2) + "; } "
		}
	}
	return text + tail
}

func (g *grow) integer(room int) string {
	array := g.pick("a", "a", "d", "p")
	if room == 0 || g.Intn(4) == 0 {
		return g.pick("x", "y", "g", "len "+array, "0", "1", "2", "3", "9223372036854775807", strconv.Itoa(g.Intn(1<<40)))
	}
	below := func() string { return g.integer(room - 1) }
	return g.pick(array+"["+g.pick("0", "1", "2", below())+"]", "-"+below(), "("+below()+g.pick("+", "-", "*", "/", "%")+below()+")")
}

func (g *grow) truth(room int) string {
	if room == 0 || g.Intn(4) == 0 {
		return g.pick("b", "c", "k", "true", "false")
	}
	below := func() string { return g.truth(room - 1) }
	return g.pick("!"+below(), "("+below()+g.pick("&&", "||", "==", "!=")+below()+")", "("+g.integer(room-1)+g.pick("==", "!=", "<", "<=", ">", ">=")+g.integer(room-1)+")")
}

// variables are those of the programs, by type.
var variables = [][]string{api.Int: {"x", "y", "g", "z"}, api.Bool: {"b", "c", "k"}, api.Arr: {"a", "d", "p"}, api.Fun: {"u", "v", "h"}}

func (g *grow) number() int {
	if g.Intn(2) == 0 {
		return g.Intn(4)
	}
	return numbers[g.Intn(len(numbers))]
}

// fitting are names with a value of its type for each variable, in any order.
func (g *grow) fitting() []Name {
	var out []Name
	for kind, list := range variables {
		for _, text := range list {
			n := g.number()
			if kind == api.Bool {
				n = g.Intn(2)
			}
			if kind == api.Arr {
				n = g.Intn(4)
			}
			out = append(out, Name{text, Value{kind, n}})
		}
	}
	g.Shuffle(len(out), func(i, j int) { out[i], out[j] = out[j], out[i] })
	return out
}

// spoiled are names of which some are missing, some stand twice, and some have a value of another kind.
func (g *grow) spoiled() []Name {
	out := g.fitting()
	for range 1 + g.Intn(5) {
		i := g.Intn(len(out))
		switch g.Intn(4) {
		case 0:
			out = slices.Delete(out, i, i+1)
		case 1:
			out = append(out, Name{out[i].Text, Value{1 + g.Intn(4), g.number()}})
		case 2:
			out[i].V = Value{kinds[g.Intn(len(kinds))], g.number()}
		case 3:
			out[i].Text = g.pick("", "x", "b", "a", "nobody")
		}
	}
	return out
}

// heap has up to four arrays, and its model the same.
func (g *grow) heap() (*Heap, *modelHeap) {
	h, m := &Heap{}, newModelHeap()
	for a := range min(4, g.Intn(8)) {
		length := g.Intn(5)
		h.New(length)
		m.make(length)
		for i := range length {
			v := num(g.number())
			h.Set(arr(a+1), num(i), v)
			m.put(arr(a+1), num(i), v)
		}
	}
	return h, m
}

// TestV4V5Random: all nodes of random programs, with values of any sort, against the model; and where the values are those of the variables' types, that of the expression has its type.
func TestV4V5Random(t *testing.T) {
	g := newGrow(4)
	raised, worth, unfit := map[int]int{}, map[int]int{}, 0
	for round := range 1000 {
		x := parsed(t, g.program(3+g.Intn(5)))
		h, m := g.heap()
		names, fits := g.fitting(), true
		if round%2 == 0 {
			names, fits = g.spoiled(), false
		}
		for place, n := range x.Nodes {
			v, e := Eval(x, place, names, h)
			want, wantE := modelEval(x, place, names, m)
			if v != want || e != wantE {
				t.Fatalf("at %d, %v is %v, %d, not %v, %d, with %v in %v", place, n, v, e, want, wantE, names, x)
			}
			if n.Kind < api.Const {
				continue
			}
			kind := types.Type(x, place)
			switch {
			case e != 0:
				raised[e]++
			case v.Kind != kind && fits:
				t.Fatalf("at %d, %v is %v, of another kind than %d, with %v in %v", place, n, v, kind, names, x)
			case v.Kind != kind:
				unfit++
			default:
				worth[n.Kind]++
			}
		}
		holdHeap(t, h, m)
	}
	for kind := api.Const; kind <= api.Binary; kind++ {
		if worth[kind] < 100 {
			t.Error("too few expressions of a kind", kind, worth[kind])
		}
	}
	if raised[Nought] < 100 || raised[Range] < 200 || raised[Missing] < 200 || len(raised) != 3 || unfit < 100 {
		t.Error("too little is seen", raised, unfit)
	}
}

// TestTotality covers P1 of the document: no tree, place or value makes Eval panic, and what no accepted program has is worth nothing.
func TestTotality(t *testing.T) {
	g := newGrow(5)
	number := func() int {
		return []int{math.MinInt, -1, 0, 1, 2, 3, g.Intn(30), g.Intn(30), 4000, 1 << 31, math.MaxInt}[g.Intn(11)]
	}
	texts := []string{"", "a", "x", "main", "-", "/", "%", "&&", "!", "\x00", "é", "var"}
	for range 20000 {
		x := api.Tree{Nodes: make([]api.Node, g.Intn(6)), Root: number()}
		if g.Intn(4) > 0 {
			x.Root = len(x.Nodes) - 1
		}
		for i := range x.Nodes {
			x.Nodes[i] = api.Node{Kind: number(), N: number(), At: number(), Text: texts[g.Intn(len(texts))]}
			for range g.Intn(3) {
				x.Nodes[i].Kids = append(x.Nodes[i].Kids, number())
			}
		}
		place, names := number(), []Name{{texts[g.Intn(len(texts))], Value{number(), number()}}, {"x", Value{number(), number()}}}
		h, m := g.heap()
		v, e := Eval(x, place, names, h)
		if want, wantE := modelEval(x, place, names, m); v != want || e != wantE {
			t.Fatalf("%v, %d, not %v, %d, at %d of %v", v, e, want, wantE, place, x)
		}
	}
}

// TestV4OneFault: programs that are accepted, with one field of one node changed: either they are refused as a whole, or the model says what they are worth.
func TestV4OneFault(t *testing.T) {
	x := parsed(t, "var x int; var a arr; proc f(x int) int { return -x; } proc main() { var b bool; var u fun; x = 1 / x; b = !(x < a[0]) && true; x = len a; u = &f; }")
	names, h, m := sampleNames(), sampleHeap(), newModelHeap()
	for _, list := range h.Arrays() {
		m.make(len(list))
		for i, n := range list {
			m.put(arr(len(m.lengths)), num(i), num(n))
		}
	}
	refused, accepted := 0, 0
	for place := range x.Nodes {
		for _, change := range []func(n *api.Node){
			func(n *api.Node) { n.Text = "nobody" },
			func(n *api.Node) { n.Text = "x" },
			func(n *api.Node) { n.Text = "a" },
			func(n *api.Node) { n.Text = "" },
			func(n *api.Node) { n.Text = "-" },
			func(n *api.Node) { n.Text = "%" },
			func(n *api.Node) { n.Text = "==" },
			func(n *api.Node) { n.Text = "||" },
			func(n *api.Node) { n.N = 0 },
			func(n *api.Node) { n.N = 1 },
			func(n *api.Node) { n.N = 9 },
			func(n *api.Node) { n.N = -1 },
			func(n *api.Node) { n.Kind = api.Var },
			func(n *api.Node) { n.Kind = api.Length },
			func(n *api.Node) { n.Kind = api.Const },
			func(n *api.Node) { n.Kind = api.Throw },
			func(n *api.Node) { n.Kids = append(n.Kids, place-1) },
			func(n *api.Node) { n.Kids = nil },
		} {
			y := copied(x)
			change(&y.Nodes[place])
			if _, e := types.Check(y); e == api.OK {
				accepted++
			} else {
				refused++
			}
			for at := -1; at <= len(y.Nodes); at++ {
				v, e := Eval(y, at, names, h)
				if want, wantE := modelEval(y, at, names, m); v != want || e != wantE {
					t.Fatalf("%v, %d, not %v, %d, at %d of %v", v, e, want, wantE, at, y)
				}
			}
		}
	}
	if refused < 100 || accepted < 30 {
		t.Error(refused, accepted)
	}
}
