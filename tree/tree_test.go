package tree

import (
	"math"
	"math/rand"
	"reflect"
	"slices"
	"strconv"
	"testing"

	"runnel/api"
)

// extremes are numbers that are no place of any tree.
var extremes = []int{math.MinInt, math.MinInt + 1, -1 << 32, -4001, -1, 4001, 1 << 32, 1 << 62, math.MaxInt - 1, math.MaxInt}

func leaf(kind int, text string, n int) api.Tree {
	return Over(api.Node{Kind: kind, Text: text, N: n}, nil)
}

func over(kind int, text string, kids ...api.Tree) api.Tree {
	return Over(api.Node{Kind: kind, Text: text}, kids)
}

// chain is a tree without branches.
func chain(size int) api.Tree {
	t := api.Tree{Root: size - 1}
	for i := range size {
		n := api.Node{Kind: api.Unary, Text: "-", At: i + 1}
		if i > 0 {
			n.Kids = []int{i - 1}
		}
		t.Nodes = append(t.Nodes, n)
	}
	return t
}

// flat is a root over leaves.
func flat(size int) api.Tree {
	t := api.Tree{Nodes: make([]api.Node, size), Root: size - 1}
	for i := range size - 1 {
		t.Nodes[i] = api.Node{Kind: api.Return, At: i}
		t.Nodes[size-1].Kids = append(t.Nodes[size-1].Kids, i)
	}
	t.Nodes[size-1].Kind = api.Block
	return t
}

// links is a tree of these Kids; the last one is the root.
func links(kids ...[]int) api.Tree {
	t := api.Tree{Root: len(kids) - 1}
	for i, l := range kids {
		t.Nodes = append(t.Nodes, api.Node{Kind: api.Block, At: 10 + i, Kids: l})
	}
	return t
}

// copied shares nothing with a tree, and does not go by way of the package.
func copied(t api.Tree) api.Tree {
	out := api.Tree{Root: t.Root}
	for _, n := range t.Nodes {
		n.Kids = append([]int(nil), n.Kids...)
		out.Nodes = append(out.Nodes, n)
	}
	return out
}

// equal holds all of two trees against each other; only nil and empty are the same (P5).
func equal(a, b api.Tree) bool {
	return reflect.DeepEqual(copied(a), copied(b))
}

func isZero(t api.Tree) bool { return len(t.Nodes) == 0 && t.Root == 0 }

// item is a tree as it is drawn, the plainest way to say what the nodes of a list must be.
type item struct {
	node api.Node
	kids []*item
}

// flatten writes the items below an item, and then itself, behind those that are written already, with their parents and depths.
func (x *item) flatten(out *written) (place, depth int) {
	n := x.node
	n.Kids = nil
	for _, kid := range x.kids {
		p, d := kid.flatten(out)
		n.Kids = append(n.Kids, p)
		depth = max(depth, d)
	}
	place = len(out.nodes)
	out.nodes = append(out.nodes, n)
	out.items = append(out.items, x)
	out.parents = append(out.parents, -1)
	for _, p := range n.Kids {
		out.parents[p] = place
	}
	return place, depth + 1
}

type written struct {
	nodes   []api.Node
	items   []*item
	parents []int
	depth   int
}

func write(x *item) written {
	var out written
	_, out.depth = x.flatten(&out)
	return out
}

func (w written) tree() api.Tree { return api.Tree{Nodes: w.nodes, Root: len(w.nodes) - 1} }

// forests are all ways to draw items of a size in all beside each other.
func forests(size int) [][]*item {
	if size == 0 {
		return [][]*item{nil}
	}
	var out [][]*item
	for first := 1; first <= size; first++ {
		for _, kids := range forests(first - 1) {
			for _, rest := range forests(size - first) {
				out = append(out, append([]*item{{kids: kids}}, rest...))
			}
		}
	}
	return out
}

// randomItem draws an item of a size, whatever its shape.
func randomItem(r *rand.Rand, size int) *item {
	x := &item{node: api.Node{Kind: r.Intn(30) - 1, N: r.Intn(5) - 1, At: r.Intn(1000), Text: []string{"", "x", "if", "-", "\xff"}[r.Intn(5)]}}
	for left := size - 1; left > 0; {
		part := 1 + r.Intn(left)
		x.kids = append(x.kids, randomItem(r, part))
		left -= part
	}
	return x
}

// drawn are items of all small forms, and greater ones.
func drawn() []*item {
	var out []*item
	for size := 1; size <= 7; size++ {
		for _, kids := range forests(size - 1) {
			out = append(out, &item{kids: kids})
		}
	}
	r := rand.New(rand.NewSource(1))
	for size := range 60 {
		out = append(out, randomItem(r, size+1), randomItem(r, size+1))
	}
	return append(out, randomItem(r, 1000), randomItem(r, 4000))
}

// modelSound walks down from the root as the definition says, and wants the places in order.
func modelSound(t api.Tree) bool {
	if len(t.Nodes) < 1 || len(t.Nodes) > 4000 || t.Root != len(t.Nodes)-1 {
		return false
	}
	steps := 0
	var seen []int
	var walk func(place int) bool
	walk = func(place int) bool {
		steps++
		if place < 0 || place >= len(t.Nodes) || steps > len(t.Nodes) {
			return false
		}
		for _, kid := range t.Nodes[place].Kids {
			if !walk(kid) {
				return false
			}
		}
		seen = append(seen, place)
		return true
	}
	if !walk(t.Root) || len(seen) != len(t.Nodes) {
		return false
	}
	for i, place := range seen {
		if i != place {
			return false
		}
	}
	return true
}

// holdUnsound: the calls that want a sound tree answer nothing for another one.
func holdUnsound(t *testing.T, what string, x api.Tree) {
	t.Helper()
	if Sound(x) || Right(x) || Depth(x) != 0 || len(Parents(x)) != 0 {
		t.Errorf("%s: %v, %v, %d, %v", what, Sound(x), Right(x), Depth(x), Parents(x))
	}
	for _, place := range append([]int{0, 1, 2, len(x.Nodes) - 1, len(x.Nodes), x.Root}, extremes...) {
		if got := Sub(x, place); !isZero(got) {
			t.Errorf("%s: Sub %d: %v", what, place, got)
		}
	}
}

func TestExamples(t *testing.T) {
	x := Over(api.Node{Kind: api.Var, Text: "x"}, nil)
	a := Over(api.Node{Kind: api.Assign, Text: "a"}, []api.Tree{x})
	if len(a.Nodes) != 2 || a.Root != 1 || !slices.Equal(a.Nodes[1].Kids, []int{0}) {
		t.Error(a)
	}
	b := Over(api.Node{Kind: api.Block}, []api.Tree{a})
	if Depth(b) != 3 || !slices.Equal(Parents(b), []int{1, 2, -1}) {
		t.Error(Depth(b), Parents(b))
	}
}

func TestA1Over(t *testing.T) {
	n := api.Node{Kind: api.Out, N: 3, At: 9, Text: "t", Kids: []int{5, -1, 7}}
	alone := Over(n, nil)
	if !equal(alone, api.Tree{Nodes: []api.Node{{Kind: api.Out, N: 3, At: 9, Text: "t"}}}) {
		t.Error("a node over nothing:", alone)
	}
	if got := Over(n, []api.Tree{}); !equal(got, alone) {
		t.Error("a node over none:", got)
	}
	a := api.Tree{Nodes: []api.Node{{Kind: 1, At: 1}, {Kind: 2, N: 4, At: 2, Kids: []int{0}}}, Root: 1}
	b := api.Tree{Nodes: []api.Node{{Kind: 3, Text: "b"}, {Kind: 4}, {Kind: 5, Kids: []int{0, 1}}}, Root: 2}
	want := api.Tree{Nodes: []api.Node{
		{Kind: 1, At: 1}, {Kind: 2, N: 4, At: 2, Kids: []int{0}},
		{Kind: 3, Text: "b"}, {Kind: 4}, {Kind: 5, Kids: []int{2, 3}},
		{Kind: 1, At: 1}, {Kind: 2, N: 4, At: 2, Kids: []int{5}},
		{Kind: api.Out, N: 3, At: 9, Text: "t", Kids: []int{1, 4, 6}},
	}, Root: 7}
	if got := Over(n, []api.Tree{a, b, a}); !equal(got, want) || !Sound(got) {
		t.Error(got)
	}
}

func TestA1OverOfAllForms(t *testing.T) {
	for i, x := range drawn() {
		w := write(x)
		var kids []api.Tree
		for _, kid := range x.kids {
			kids = append(kids, write(kid).tree())
		}
		if got := Over(x.node, kids); !equal(got, w.tree()) || !Sound(got) {
			t.Fatal(i, got)
		}
	}
}

// TestA1OverOfKidsThatAreNotSound: their nodes and roots are moved on all the same.
func TestA1OverOfKidsThatAreNotSound(t *testing.T) {
	n := api.Node{Kind: api.Block}
	one := api.Tree{Nodes: []api.Node{{Kind: 7}}}
	for i, c := range []struct{ got, want api.Tree }{
		{Over(n, []api.Tree{{}}), api.Tree{Nodes: []api.Node{{Kind: 6, Kids: []int{0}}}}},
		{Over(n, []api.Tree{{Root: 4}}), api.Tree{Nodes: []api.Node{{Kind: 6, Kids: []int{4}}}}},
		{Over(n, []api.Tree{one, {}, one}), api.Tree{Nodes: []api.Node{{Kind: 7}, {Kind: 7}, {Kind: 6, Kids: []int{0, 1, 1}}}, Root: 2}},
		{Over(n, []api.Tree{one, {Nodes: []api.Node{{Kids: []int{5, -3}}, {}}, Root: -2}, one}),
			api.Tree{Nodes: []api.Node{{Kind: 7}, {Kids: []int{6, -2}}, {}, {Kind: 7}, {Kind: 6, Kids: []int{0, -1, 3}}}, Root: 4}},
		{Over(n, []api.Tree{one, {Nodes: []api.Node{{Kids: []int{math.MaxInt, math.MinInt}}}, Root: math.MaxInt}}),
			api.Tree{Nodes: []api.Node{{Kind: 7}, {Kids: []int{math.MinInt, math.MinInt + 1}}, {Kind: 6, Kids: []int{0, math.MinInt}}}, Root: 2}},
	} {
		if !equal(c.got, c.want) {
			t.Error(i, c.got)
		}
		holdUnsound(t, strconv.Itoa(i), c.got)
	}
}

func TestA1OverOfManyNodes(t *testing.T) {
	for _, c := range []struct {
		kids  []api.Tree
		sound bool
	}{
		{[]api.Tree{flat(3999)}, true},
		{[]api.Tree{flat(4000)}, false},
		{[]api.Tree{chain(2000), flat(1999)}, true},
		{[]api.Tree{chain(2000), flat(2000)}, false},
		{slices.Repeat([]api.Tree{chain(1)}, 3999), true},
		{slices.Repeat([]api.Tree{chain(1)}, 4000), false},
		{slices.Repeat([]api.Tree{chain(100)}, 100), false},
	} {
		got := Over(api.Node{Kind: api.Block}, c.kids)
		size := 1
		for _, kid := range c.kids {
			size += len(kid.Nodes)
		}
		if Sound(got) != c.sound || len(got.Nodes) != size || got.Root != size-1 || len(got.Nodes[got.Root].Kids) != len(c.kids) {
			t.Error(Sound(got), len(got.Nodes), got.Root)
		}
		if kids := got.Nodes[got.Root].Kids; kids[len(kids)-1] != size-2 {
			t.Error(kids[len(kids)-1])
		}
	}
}

func TestA1Sub(t *testing.T) {
	for i, x := range drawn() {
		w := write(x)
		whole := w.tree()
		for place, below := range w.items {
			if len(w.items) > 100 && place%37 != 0 {
				continue
			}
			if got := Sub(whole, place); !equal(got, write(below).tree()) {
				t.Fatal(i, place, got)
			}
		}
		if !equal(Sub(whole, whole.Root), whole) {
			t.Error(i, "the root")
		}
		for _, place := range append([]int{len(whole.Nodes), len(whole.Nodes) + 1, -1, -len(whole.Nodes)}, extremes...) {
			if got := Sub(whole, place); !isZero(got) {
				t.Error(i, place, got)
			}
		}
	}
}

func TestA1SubKeepsFields(t *testing.T) {
	x := api.Tree{Nodes: []api.Node{
		{Kind: 1}, {Kind: 2, N: 7, At: 8, Text: "a"}, {Kind: 3, N: -1, At: -2, Text: "\x00", Kids: []int{1}}, {Kind: 99, Kids: []int{0, 2}},
	}, Root: 3}
	want := api.Tree{Nodes: []api.Node{{Kind: 2, N: 7, At: 8, Text: "a"}, {Kind: 3, N: -1, At: -2, Text: "\x00", Kids: []int{0}}}, Root: 1}
	if got := Sub(x, 2); !equal(got, want) {
		t.Error(got)
	}
}

// TestA2SoundOfAllSmallLists: all lists of Kids, beside the definition.
func TestA2SoundOfAllSmallLists(t *testing.T) {
	// By the number of nodes there are so many forms of trees.
	forms := []int{0, 1, 1, 2, 5}
	for _, c := range []struct{ size, low, high, longest int }{
		{1, -2, 2, 3}, {2, -1, 3, 3}, {3, -1, 3, 2}, {3, 0, 2, 3}, {4, 0, 3, 2}, {4, 0, 2, 3},
	} {
		lists := [][]int{nil}
		for from := 0; from < len(lists); from++ {
			if len(lists[from]) < c.longest {
				for k := c.low; k <= c.high; k++ {
					lists = append(lists, append(slices.Clone(lists[from]), k))
				}
			}
		}
		x := api.Tree{Nodes: make([]api.Node, c.size), Root: c.size - 1}
		sound := 0
		var fill func(place int)
		fill = func(place int) {
			if place == c.size {
				if Sound(x) {
					sound++
				}
				if Sound(x) != modelSound(x) {
					t.Fatal(x)
				}
				return
			}
			for _, l := range lists {
				x.Nodes[place].Kids = l
				fill(place + 1)
			}
		}
		fill(0)
		want := forms[c.size]
		if c.longest < c.size-1 && c.size == 4 {
			want-- // a root over three leaves
		}
		if c.high < c.size-2 {
			t.Fatal("no room for all trees")
		}
		if sound != want {
			t.Errorf("%v: %d sound trees, not %d", c, sound, want)
		}
	}
}

func TestA2SoundFaults(t *testing.T) {
	for what, x := range map[string]api.Tree{
		"no node":                         {},
		"no node, Root -1":                {Root: -1},
		"empty":                           {Nodes: []api.Node{}},
		"Root behind the end":             {Nodes: links(nil).Nodes, Root: 1},
		"Root below 0":                    {Nodes: links(nil).Nodes, Root: -1},
		"Root not the last":               {Nodes: links(nil, []int{0}, []int{1}).Nodes, Root: 1},
		"Root 0 of two":                   {Nodes: links(nil, []int{0}).Nodes, Root: 0},
		"the root first":                  {Nodes: links([]int{1, 2}, nil, nil).Nodes, Root: 0},
		"Root far out":                    {Nodes: links(nil).Nodes, Root: math.MaxInt},
		"Root far below":                  {Nodes: links(nil).Nodes, Root: math.MinInt},
		"out of order":                    links(nil, nil, []int{1, 0}),
		"out of order in a middle node":   links(nil, nil, []int{1, 0}, []int{2}),
		"out of range":                    links(nil, []int{0, 2}),
		"far out of range":                links(nil, []int{math.MaxInt}),
		"below 0":                         links([]int{-1}),
		"below 0, with others":            links(nil, []int{-1, 0}),
		"far below 0":                     links(nil, []int{math.MinInt, 0}),
		"its own child":                   links([]int{0}),
		"its own child, with others":      links(nil, []int{0, 1}),
		"a child behind its parent":       links([]int{1}, nil, []int{0}),
		"two nodes, children of another":  links([]int{1}, []int{0}),
		"shared by two nodes":             links(nil, []int{0}, []int{0, 1}),
		"shared by two, the other order":  links(nil, []int{0}, []int{1, 0}),
		"shared deeper":                   links(nil, nil, []int{0, 1}, []int{1, 2}),
		"named twice":                     links(nil, []int{0, 0}),
		"named twice, with others":        links(nil, nil, []int{0, 1, 1}),
		"missing, the first":              links(nil, nil, []int{1}),
		"missing, the last":               links(nil, nil, []int{0}),
		"missing, the middle one":         links(nil, nil, nil, []int{0, 2}),
		"nobody's child":                  links(nil, nil),
		"nobody's child, with its own":    links(nil, []int{0}, nil),
		"nobody's child among others":     links(nil, nil, []int{0}, []int{1, 2}),
		"a child that is not the last":    links(nil, nil, []int{0}, []int{2, 1}),
		"a grandchild as a child":         links(nil, []int{0}, []int{1}, []int{0, 2}),
		"preorder":                        {Nodes: links([]int{1, 2}, nil, nil).Nodes, Root: 2},
		"by levels":                       links(nil, nil, nil, []int{0}, []int{1, 2}, []int{3, 4}),
		"too many nodes, a chain":         chain(4001),
		"too many nodes, flat":            flat(4001),
		"far too many nodes":              flat(100000),
		"more Kids than nodes":            links(nil, slices.Repeat([]int{0}, 5000)),
		"very many Kids, each its parent": links(slices.Repeat([]int{0}, 100000)),
	} {
		if modelSound(x) {
			t.Error("the model:", what)
		}
		holdUnsound(t, what, x)
	}
}

func TestA2SoundSizes(t *testing.T) {
	for size, want := range map[int]bool{1: true, 2: true, 3999: true, 4000: true, 4001: false, 4002: false, 10000: false} {
		for _, x := range []api.Tree{chain(size), flat(size)} {
			if Sound(x) != want {
				t.Error(size, Sound(x))
			}
		}
		wantDepths := [2]int{size, min(size, 2)}
		if !want {
			wantDepths = [2]int{}
		}
		if a, b := Depth(chain(size)), Depth(flat(size)); a != wantDepths[0] || b != wantDepths[1] {
			t.Error(size, a, b)
		}
	}
}

// TestA2ShapesDoNotMatter: a tree is sound by its places alone.
func TestA2ShapesDoNotMatter(t *testing.T) {
	x := links(nil, []int{0}, nil, []int{1, 2})
	for i := range x.Nodes {
		x.Nodes[i].Kind, x.Nodes[i].N, x.Nodes[i].At, x.Nodes[i].Text = extremes[i], extremes[i+1], extremes[i+2], "\xff\x00 "
	}
	if !Sound(x) || Depth(x) != 3 || !slices.Equal(Parents(x), []int{1, 3, 3, -1}) || Right(x) {
		t.Error(Sound(x), Depth(x), Parents(x))
	}
}

func TestA2ParentsAndDepth(t *testing.T) {
	for i, x := range drawn() {
		w := write(x)
		whole := w.tree()
		if !Sound(whole) || !modelSound(whole) || Depth(whole) != w.depth || !slices.Equal(Parents(whole), w.parents) {
			t.Fatal(i, Sound(whole), Depth(whole), w.depth, Parents(whole), w.parents)
		}
	}
	for i, c := range []struct {
		x       api.Tree
		depth   int
		parents []int
	}{
		{links(nil), 1, []int{-1}},
		{links(nil, []int{0}), 2, []int{1, -1}},
		{links(nil, nil, []int{0, 1}), 2, []int{2, 2, -1}},
		{links(nil, []int{0}, nil, []int{1, 2}), 3, []int{1, 3, 3, -1}},
		{links(nil, nil, []int{1}, []int{0, 2}), 3, []int{3, 2, 3, -1}},
		{links(nil, []int{0}, []int{1}, nil, nil, []int{3, 4}, []int{2, 5}), 4, []int{1, 2, 6, 5, 5, 6, -1}},
	} {
		if Depth(c.x) != c.depth || !slices.Equal(Parents(c.x), c.parents) {
			t.Error(i, Depth(c.x), Parents(c.x))
		}
	}
}

// TestA2OneThingWrong: random trees with one thing changed, beside the definition.
func TestA2OneThingWrong(t *testing.T) {
	r := rand.New(rand.NewSource(2))
	for range 20000 {
		x := write(randomItem(r, 1+r.Intn(9))).tree()
		place := r.Intn(len(x.Nodes))
		n := &x.Nodes[place]
		any := r.Intn(len(x.Nodes)+2) - 1
		switch r.Intn(6) {
		case 0:
			x.Root = any
		case 1:
			n.Kids = append(n.Kids, any)
		case 2:
			n.Kids = n.Kids[:r.Intn(len(n.Kids)+1)]
		case 3:
			n.Kids = n.Kids[r.Intn(len(n.Kids)+1):]
		case 4:
			slices.Reverse(n.Kids)
		case 5:
			if len(n.Kids) > 0 {
				n.Kids[r.Intn(len(n.Kids))] = any
			}
		}
		if Sound(x) != modelSound(x) {
			t.Fatal(x)
		}
		if !Sound(x) {
			holdUnsound(t, "one thing wrong", x)
		}
	}
}

func TestA3Bare(t *testing.T) {
	trees := []api.Tree{{}, {Root: 5}, {Root: -1}, links([]int{7, -2}), {Nodes: links(nil, nil).Nodes, Root: 9}, flat(5000)}
	for _, x := range drawn() {
		trees = append(trees, write(x).tree())
	}
	for i, x := range trees {
		want := copied(x)
		for j := range want.Nodes {
			want.Nodes[j].At = 0
		}
		if got := Bare(x); !equal(got, want) || !Same(got, x) || !Same(x, got) || !equal(Bare(got), got) {
			t.Error(i, got)
		}
	}
	x := api.Tree{Nodes: []api.Node{{Kind: -4, N: 5, At: -6, Text: "t", Kids: []int{9}}, {At: math.MaxInt}}, Root: 3}
	want := api.Tree{Nodes: []api.Node{{Kind: -4, N: 5, Text: "t", Kids: []int{9}}, {}}, Root: 3}
	if got := Bare(x); !equal(got, want) {
		t.Error(got)
	}
}

func TestA3Same(t *testing.T) {
	base := api.Tree{Nodes: []api.Node{{Kind: 22, At: 3, Text: "x"}, {Kind: 20, N: 7, At: 4}, {Kind: 27, At: 5, Text: "+", Kids: []int{0, 1}}}, Root: 2}
	same := map[string]func(x *api.Tree){
		"nothing":         func(x *api.Tree) {},
		"an At":           func(x *api.Tree) { x.Nodes[1].At = -9 },
		"the root's At":   func(x *api.Tree) { x.Nodes[2].At = math.MinInt },
		"all At":          func(x *api.Tree) { x.Nodes[0].At, x.Nodes[1].At, x.Nodes[2].At = 0, 0, 0 },
		"no Kids, or nil": func(x *api.Tree) { x.Nodes[0].Kids = []int{} },
	}
	other := map[string]func(x *api.Tree){
		"a Kind":           func(x *api.Tree) { x.Nodes[0].Kind = 24 },
		"an N":             func(x *api.Tree) { x.Nodes[1].N = 8 },
		"a Text":           func(x *api.Tree) { x.Nodes[0].Text = "X" },
		"a Text, longer":   func(x *api.Tree) { x.Nodes[2].Text = "+ " },
		"a kid":            func(x *api.Tree) { x.Nodes[2].Kids[0] = 1 },
		"the order":        func(x *api.Tree) { x.Nodes[2].Kids = []int{1, 0} },
		"a kid less":       func(x *api.Tree) { x.Nodes[2].Kids = []int{0} },
		"a kid more":       func(x *api.Tree) { x.Nodes[2].Kids = []int{0, 1, 1} },
		"a kid of a leaf":  func(x *api.Tree) { x.Nodes[0].Kids = []int{0} },
		"a node more":      func(x *api.Tree) { x.Nodes = append(x.Nodes, api.Node{}) },
		"a node less":      func(x *api.Tree) { x.Nodes = x.Nodes[:2] },
		"no nodes":         func(x *api.Tree) { x.Nodes = nil },
		"two nodes turned": func(x *api.Tree) { x.Nodes[0], x.Nodes[1] = x.Nodes[1], x.Nodes[0] },
		"the root's Kind":  func(x *api.Tree) { x.Nodes[2].Kind = 26 },
		"Root":             func(x *api.Tree) { x.Root = 1 },
	}
	for want, changes := range map[bool]map[string]func(x *api.Tree){true: same, false: other} {
		for what, change := range changes {
			x := copied(base)
			change(&x)
			if Same(base, x) != want || Same(x, base) != want || Same(Bare(base), x) != want || Same(base, Bare(x)) != want {
				t.Error(what, want)
			}
			if !Same(x, x) || !Same(x, copied(x)) {
				t.Error(what, "itself")
			}
		}
	}
	if !Same(api.Tree{}, api.Tree{Nodes: []api.Node{}}) || Same(api.Tree{}, links(nil)) || Same(links(nil), api.Tree{}) {
		t.Error("no nodes")
	}
}

// TestA3SameIsEqualBare: any two of many trees.
func TestA3SameIsEqualBare(t *testing.T) {
	r := rand.New(rand.NewSource(3))
	var trees []api.Tree
	for range 200 {
		x := write(randomItem(r, 1+r.Intn(3))).tree()
		for i := range x.Nodes {
			x.Nodes[i].Kind, x.Nodes[i].N, x.Nodes[i].Text = r.Intn(2), 0, ""
		}
		trees = append(trees, x)
	}
	equals := 0
	for _, a := range trees {
		for _, b := range trees {
			want := equal(Bare(a), Bare(b))
			if Same(a, b) != want {
				t.Fatal(a, b)
			}
			if want && !equal(a, b) {
				equals++
			}
		}
	}
	if equals == 0 {
		t.Error("no two trees that differ in At alone")
	}
}

// TestA4OverOfSubs: a sound tree is put together again from its parts.
func TestA4OverOfSubs(t *testing.T) {
	trees := []api.Tree{chain(1), chain(2), chain(4000), flat(4000), links(nil, []int{0}, nil, nil, []int{2, 3}, []int{1, 4})}
	for _, x := range drawn() {
		trees = append(trees, write(x).tree())
	}
	for i, x := range trees {
		root := x.Nodes[x.Root]
		var kids []api.Tree
		for j, place := range root.Kids {
			if j > 0 && len(root.Kids) > 1000 && j%100 != 0 {
				kids = append(kids, api.Tree{Nodes: []api.Node{x.Nodes[place]}})
				continue
			}
			kid := Sub(x, place)
			if !Sound(kid) {
				t.Error(i, place, kid)
			}
			kids = append(kids, kid)
		}
		if got := Over(root, kids); !equal(got, x) {
			t.Error(i, got)
		}
	}
}

func TestA4OneParent(t *testing.T) {
	trees := []api.Tree{chain(4000), flat(4000)}
	for _, x := range drawn() {
		trees = append(trees, write(x).tree())
	}
	for i, x := range trees {
		count := make([]int, len(x.Nodes))
		for place, n := range x.Nodes {
			for _, kid := range n.Kids {
				count[kid]++
				if Parents(x)[kid] != place {
					t.Fatal(i, place, kid)
				}
			}
			if k := len(n.Kids); k > 0 && n.Kids[k-1] != place-1 {
				t.Fatal(i, place)
			}
			if len(x.Nodes) > 1000 && place > 10 {
				break
			}
		}
		parents := Parents(x)
		if parents[x.Root] != -1 || len(parents) != len(x.Nodes) {
			t.Error(i, parents[x.Root])
		}
		for place, parent := range parents[:x.Root] {
			if !slices.Contains(x.Nodes[parent].Kids, place) || len(x.Nodes) <= 1000 && count[place] != 1 {
				t.Fatal(i, place, parent, count[place])
			}
		}
	}
}

// wild are trees of all kinds, most of them not sound.
func wild() []api.Tree {
	r := rand.New(rand.NewSource(4))
	out := []api.Tree{{}, {Root: -1}, {Root: math.MaxInt}, {Nodes: []api.Node{}, Root: math.MinInt}, chain(1), chain(3000), flat(3000), chain(4001), flat(20000)}
	values := append([]int{0, 1, 2, 3, 4, 5, 6}, extremes...)
	for range 3000 {
		x := api.Tree{Nodes: make([]api.Node, r.Intn(6)), Root: values[r.Intn(len(values))]}
		for i := range x.Nodes {
			n := &x.Nodes[i]
			n.Kind, n.N, n.At = values[r.Intn(len(values))], values[r.Intn(len(values))], values[r.Intn(len(values))]
			n.Text = []string{"", "x", "\x00", "\xff", "while", "||"}[r.Intn(6)]
			for range r.Intn(4) {
				n.Kids = append(n.Kids, values[r.Intn(len(values))])
			}
		}
		out = append(out, x)
	}
	return out
}

// TestP1Totality covers P1 and P7: no argument makes a call panic.
func TestP1Totality(t *testing.T) {
	trees := wild()
	places := append([]int{0, 1, 2, 3, 4, 5}, extremes...)
	for i, x := range trees {
		if Sound(x) != modelSound(x) {
			t.Fatal(x)
		}
		for _, place := range places {
			Sub(x, place)
		}
		Parents(x)
		Depth(x)
		Right(x)
		Bare(x)
		y := trees[(i*7+1)%len(trees)]
		Same(x, y)
		Right(Over(api.Node{Kind: i, N: -i, Kids: []int{i}}, []api.Tree{x, y, x}))
	}
	Over(api.Node{Kids: make([]int, 100000)}, make([]api.Tree, 100000))
}

// TestP2NothingBesideNone: a zero tree, no list, 0, where there is nothing to answer.
func TestP2NothingBesideNone(t *testing.T) {
	for i, x := range wild() {
		if !modelSound(x) && len(x.Nodes) < 10 {
			holdUnsound(t, strconv.Itoa(i), x)
		}
	}
}

// calls are all calls that take a tree.
func calls(x, y api.Tree) {
	Over(x.Nodes[0], []api.Tree{x, y, x})
	for place := -1; place <= len(x.Nodes); place++ {
		Sub(x, place)
	}
	Parents(x)
	Depth(x)
	Sound(x)
	Right(x)
	Same(x, y)
	Bare(x)
}

// roomy is a tree whose lists have room behind their ends that is not theirs.
func roomy() (x api.Tree, whole []api.Node, kids []int) {
	kids = []int{0, 1, 77, 78}
	whole = []api.Node{
		{Kind: 20, At: 1, Kids: []int{55, 56}[:0]},
		{Kind: 20, At: 2, Kids: []int{57}[:0]},
		{Kind: 27, At: 3, Text: "+", Kids: kids[:2]},
		{Kind: 99, At: 4, Text: "beyond", Kids: []int{0}},
		{Kind: 98, At: 5, Text: "beyond", Kids: []int{2}},
	}
	return api.Tree{Nodes: whole[:3], Root: 2}, whole, kids
}

func TestP3ArgumentsStay(t *testing.T) {
	x, whole, kids := roomy()
	y := chain(3)
	before := copied(api.Tree{Nodes: whole})
	list := []api.Tree{x, y, chain(1), chain(2)}
	calls(x, y)
	calls(y, x)
	Over(api.Node{Kids: kids[:1]}, list[:2])
	if !equal(api.Tree{Nodes: whole}, before) || !slices.Equal(kids, []int{0, 1, 77, 78}) || !equal(y, chain(3)) {
		t.Error("an argument changed", whole, kids, y)
	}
	if a, b := whole[0].Kids[:2], whole[1].Kids[:1]; a[0] != 55 || a[1] != 56 || b[0] != 57 {
		t.Error("something beyond the end of Kids changed", a, b)
	}
	if !equal(list[0], x) || !equal(list[1], chain(3)) || !equal(list[2], chain(1)) || !equal(list[3], chain(2)) {
		t.Error("the list of kids changed")
	}
	// Unsound ones stay too.
	for _, u := range []api.Tree{links(nil, []int{1, 0}), links([]int{-1}), flat(4001), {Nodes: x.Nodes, Root: 1}} {
		held := copied(u)
		calls(u, x)
		if !equal(u, held) {
			t.Error("an argument changed", u)
		}
	}
}

// TestP3BeyondTheEnd: what is behind the length of a list is not read.
func TestP3BeyondTheEnd(t *testing.T) {
	x, whole, _ := roomy()
	plain := copied(x)
	if !Sound(x) || Depth(x) != 2 || !slices.Equal(Parents(x), []int{2, 2, -1}) || !Same(x, plain) || !equal(Bare(x), Bare(plain)) || !equal(Sub(x, 2), plain) || !isZero(Sub(x, 3)) {
		t.Error(x)
	}
	list := []api.Tree{x, chain(2), chain(3)}
	if got := Over(api.Node{}, list[:1]); len(got.Nodes) != 4 || !slices.Equal(got.Nodes[3].Kids, []int{2}) {
		t.Error(got)
	}
	clear(whole[3:])
	if !equal(Bare(x), Bare(plain)) {
		t.Error("read beyond the end")
	}
}

// scramble overwrites all that a tree can reach, to the ends of what its lists have room for.
func scramble(x api.Tree) {
	nodes := x.Nodes[:cap(x.Nodes)]
	for i := range nodes {
		kids := nodes[i].Kids[:cap(nodes[i].Kids)]
		for j := range kids {
			kids[j] = -999
		}
		nodes[i] = api.Node{Kind: -999, N: -999, At: -999, Text: "gone", Kids: []int{-999}}
	}
}

// answers are all that the calls answer for trees, as lists of trees and of numbers.
func answers(x, y api.Tree) ([]api.Tree, [][]int) {
	trees := []api.Tree{Over(api.Node{Kind: 1, Kids: x.Nodes[x.Root].Kids}, []api.Tree{x, y, x}), Over(x.Nodes[x.Root], nil), Bare(x), Bare(y)}
	for place := range x.Nodes {
		trees = append(trees, Sub(x, place))
	}
	return trees, [][]int{Parents(x), Parents(y)}
}

func TestP3ResultsAreNew(t *testing.T) {
	makers := []func() api.Tree{
		func() api.Tree { return chain(3) },
		func() api.Tree { return flat(5) },
		func() api.Tree { x, _, _ := roomy(); return x },
		func() api.Tree { return over(api.While, "", leaf(api.Truth, "", 1), over(api.Block, "")) },
	}
	for i, build := range makers {
		for j, other := range makers {
			wantTrees, wantLists := answers(build(), other())
			x, y := build(), other()
			trees, lists := answers(x, y)
			scramble(x)
			scramble(y)
			for k, got := range trees {
				if !equal(got, wantTrees[k]) {
					t.Errorf("%d, %d: answer %d shares memory with an argument: %v", i, j, k, got)
				}
			}
			for k, got := range lists {
				if !slices.Equal(got, wantLists[k]) {
					t.Error(i, j, k, got)
				}
				clear(got[:cap(got)])
			}
			for k, got := range trees {
				if !equal(got, wantTrees[k]) {
					t.Errorf("%d, %d: answer %d shares memory with another one: %v", i, j, k, got)
				}
				scramble(got)
			}
		}
	}
	// An argument is not kept either: what is answered doesn't write to it.
	x, y := flat(5), chain(3)
	trees, _ := answers(x, y)
	for _, got := range trees {
		scramble(got)
	}
	if !equal(x, flat(5)) || !equal(y, chain(3)) {
		t.Error(x, y)
	}
}

// TestP3NoTwoListsShare: the lists of Kids of one answer, even where one tree was handed in twice.
func TestP3NoTwoListsShare(t *testing.T) {
	x := links(nil, nil, []int{0, 1}, nil, []int{3}, []int{2, 4})
	big := Over(api.Node{Kind: 6}, []api.Tree{x, x})
	for _, build := range []func() api.Tree{
		func() api.Tree { return Over(api.Node{Kind: 6}, []api.Tree{x, x}) },
		func() api.Tree { return Sub(big, big.Root) },
		func() api.Tree { return Sub(big, 5) },
		func() api.Tree { return Bare(big) },
	} {
		got := build()
		want := copied(got)
		for place := range got.Nodes {
			l := got.Nodes[place].Kids
			l = l[:cap(l)]
			for i := range l {
				l[i] = -5
			}
			for other := place + 1; other < len(got.Nodes); other++ {
				if !slices.Equal(got.Nodes[other].Kids, want.Nodes[other].Kids) {
					t.Fatal(place, other, got.Nodes[other].Kids)
				}
			}
		}
	}
}

// TestP4SameAnswers: the calls in between are not to be seen.
func TestP4SameAnswers(t *testing.T) {
	x, y := program(func() api.Tree { return over(api.Return, "") }), chain(5)
	want, wantLists := answers(x, y)
	for _, between := range []api.Tree{x, y, links(nil, nil), chain(4001), flat(30), links([]int{-1})} {
		calls(between, x)
		got, lists := answers(x, y)
		for i := range want {
			if !equal(got[i], want[i]) {
				t.Error(i, got[i])
			}
		}
		if !reflect.DeepEqual(lists, wantLists) || !Right(x) || Right(y) || Depth(y) != 5 {
			t.Error(lists)
		}
	}
}
