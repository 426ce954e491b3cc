package value

import (
	"math"
	"slices"
	"sync"
	"sync/atomic"
	"testing"

	"runnel/api"
)

// answer is what Eval answers.
type answer struct {
	v Value
	e int
}

// said is what each node of a tree is worth, and places beside it.
func said(x api.Tree, names []Name, h *Heap) []answer {
	var out []answer
	for place := -1; place <= len(x.Nodes); place++ {
		v, e := Eval(x, place, names, h)
		out = append(out, answer{v, e})
	}
	return out
}

const sampleStatements = "x = 1 + 2 * x; x = a[x - 3] / 2; x = 1 / (x - 4) + a[9]; x = a[9] + 1 / (x - 4); b = !(x < 3) && b || y == y; u = &f; x = len a; x = -a[0]; d = a; y = p[0];"

func sample(t *testing.T) api.Tree { return parsed(t, head+sampleStatements+tail) }

// TestSameAnswers covers P4 of the document: the same call answers the same, whatever was asked in between, of copies too, and beside others.
func TestSameAnswers(t *testing.T) {
	g := newGrow(21)
	type asked struct {
		x     api.Tree
		names []Name
		h     *Heap
		want  []answer
	}
	list := []asked{{x: sample(t), names: sampleNames(), h: sampleHeap()}}
	for range 20 {
		h, _ := g.heap()
		list = append(list, asked{x: parsed(t, g.program(3)), names: g.spoiled(), h: h})
	}
	for i, a := range list {
		list[i].want = said(a.x, a.names, a.h)
		if !slices.Equal(said(a.x, a.names, a.h), list[i].want) || !slices.Equal(said(copied(a.x), slices.Clone(a.names), a.h.Copy()), list[i].want) {
			t.Error("another answer", i)
		}
	}
	for i, a := range slices.Backward(list) {
		if !slices.Equal(said(a.x, a.names, a.h), a.want) {
			t.Error("another answer behind others", i)
		}
	}
	var wait sync.WaitGroup
	again := make([][]answer, len(list))
	for i, a := range list {
		wait.Go(func() { again[i] = said(a.x, a.names, a.h) })
	}
	wait.Wait()
	for i, a := range list {
		if !slices.Equal(again[i], a.want) {
			t.Error("another answer beside others", i)
		}
	}
}

// TestSameSigns covers P4 of the document for the calls without an object.
func TestSameSigns(t *testing.T) {
	for _, sign := range signs {
		for _, a := range values() {
			v, ok := Unary(sign, a)
			w, same := Unary(sign, a)
			if v != w || ok != same || Zero(a.Kind) != Zero(a.Kind) {
				t.Fatal(sign, a)
			}
			for _, b := range []Value{a, num(1), num(0), is(1)} {
				v, e, ok := Binary(sign, a, b)
				w, f, same := Binary(sign, a, b)
				if v != w || e != f || ok != same {
					t.Fatal(sign, a, b)
				}
			}
		}
	}
}

// TestSameActs covers P4 of the document for heaps: those with the same acts behind them answer the same, whatever others do; and asking changes nothing.
func TestSameActs(t *testing.T) {
	var h, other, same Heap
	for _, heap := range []*Heap{&h, &same} {
		heap.New(2)
		other.New(7)
		other.Set(arr(1), num(1), num(8))
		heap.New(-1)
		heap.Set(arr(1), num(1), num(3))
		heap.New(1)
	}
	for range 3 {
		for _, heap := range []*Heap{&h, &same} {
			wantHeap(t, heap, 5, []int{0, 3}, []int{0})
			wantGet(t, heap, arr(1), num(1), num(3), 0)
			wantGet(t, heap, arr(1), num(2), Value{}, Range)
			wantGet(t, heap, arr(3), num(0), Value{}, Missing)
			if heap.Len(arr(1)) != 2 || heap.Len(arr(3)) != 0 {
				t.Error(heap.Len(arr(1)), heap.Len(arr(3)))
			}
			heap.Copy().Set(arr(1), num(1), num(4))
		}
	}
}

// TestArgumentsStay covers P3 of the document: nothing of a tree, of names or of a heap is changed by Eval, and nothing beyond the end of a list is read or written.
func TestArgumentsStay(t *testing.T) {
	x, h := sample(t), sampleHeap()
	want, arrays, cells := said(x, sampleNames(), h), h.Arrays(), h.Cells()
	nodes := append(copied(x).Nodes, api.Node{Kind: api.Const, N: 7}, api.Node{Kind: api.Program, Kids: []int{len(x.Nodes)}})
	for i := range x.Nodes {
		kids := append(nodes[i].Kids, math.MinInt, math.MaxInt)
		nodes[i].Kids = kids[:len(kids)-2]
	}
	before := copied(api.Tree{Nodes: nodes})
	// What is beyond the names would be the value of c, y and v, which have none.
	names := append(sampleNames(), Name{"y", num(1)}, Name{"c", is(1)}, Name{"v", fun(1)})
	known := slices.Clone(names)
	got := said(api.Tree{Nodes: nodes[:len(x.Nodes)], Root: x.Root}, names[:len(names)-3], h)
	if !slices.Equal(got, want) {
		t.Errorf("%v, not %v", got, want)
	}
	if !equalTrees(api.Tree{Nodes: nodes}, before) || !slices.Equal(names, known) {
		t.Error("an argument is changed")
	}
	for i := range x.Nodes {
		kids := nodes[i].Kids
		if rest := kids[len(kids) : len(kids)+2]; rest[0] != math.MinInt || rest[1] != math.MaxInt {
			t.Fatal("a list is changed beyond its end")
		}
	}
	if !equalArrays(h.Arrays(), arrays) || h.Cells() != cells {
		t.Error("a heap is changed")
	}
}

// TestNothingIsKept covers P3 and P4 of the document: a tree, names and a heap that have changed since are asked anew.
func TestNothingIsKept(t *testing.T) {
	x := parsed(t, "var x int; var a arr; proc main() { x = a[x]; x = 5; }")
	place := slices.IndexFunc(x.Nodes, func(n api.Node) bool { return n.Kind == api.Index })
	names, h := []Name{{"x", num(0)}, {"a", arr(1)}}, &Heap{}
	want := func(v Value, e int) {
		t.Helper()
		if got, gotE := Eval(x, place, names, h); got != v || gotE != e {
			t.Errorf("%v, %d, not %v, %d", got, gotE, v, e)
		}
	}
	want(Value{}, Missing)
	h.New(2)
	want(num(0), 0)
	h.Set(arr(1), num(1), num(9))
	names[0].V = num(1)
	want(num(9), 0)
	h.Set(arr(1), num(1), num(8))
	want(num(8), 0)
	names[1].Text = "b"
	want(Value{}, Missing)
	names[1].Text = "a"
	x.Nodes[place-1] = api.Node{Kind: api.Const, N: 2}
	want(Value{}, Range)
	x.Nodes[place-1].N = 0
	want(num(0), 0)
	x.Nodes[place].Text = "x"
	want(Value{}, 0)
	x.Nodes[place].Text = "a"
	want(num(0), 0)
}

// TestZeroBesideNothing covers P2 of the document: beside an exception, or where nothing is told, there is a zero value.
func TestZeroBesideNothing(t *testing.T) {
	list := values()
	var h Heap
	h.New(1)
	for _, a := range list {
		for _, sign := range append(slices.Clone(signs), noSigns...) {
			if v, ok := Unary(sign, a); !ok && v != (Value{}) {
				t.Fatal(sign, a, v)
			}
			for _, b := range list[:40] {
				if v, e, ok := Binary(sign, a, b); (!ok || e != 0) && v != (Value{}) || !ok && e != 0 {
					t.Fatal(sign, a, b, v, e, ok)
				}
			}
		}
		for _, b := range list {
			if v, e := h.Get(a, b); e != 0 && v != (Value{}) {
				t.Fatal(a, b, v, e)
			}
		}
		if v, e, ok := h.New(-a.N); (!ok || e != 0) && v != (Value{}) || !ok && e != 0 {
			t.Fatal(a, v, e, ok)
		}
	}
}

// TestOffsetsDoNotMatter: where a node begins in the text says nothing about what it is worth; nor does P5 of the document let an empty list differ from none.
func TestOffsetsDoNotMatter(t *testing.T) {
	x, y := sample(t), sample(t)
	for i := range y.Nodes {
		y.Nodes[i].At = []int{-1, math.MinInt, math.MaxInt, 20001, -i}[i%5]
		if len(y.Nodes[i].Kids) == 0 {
			y.Nodes[i].Kids = [][]int{nil, {}, make([]int, 0, 9)}[i%3]
		}
	}
	if !slices.Equal(said(x, sampleNames(), sampleHeap()), said(y, sampleNames(), sampleHeap())) {
		t.Error(y)
	}
}

// TestWaysAtomic: cells are counted with an atomic number, so that one may ask for it while another makes arrays: it never goes down, and is never more than there is room for.
func TestWaysAtomic(t *testing.T) {
	var h Heap
	var counted *atomic.Int64 = &h.cells
	done, faults := make(chan int), make(chan int)
	go func() {
		last, wrong := 0, 0
		for {
			select {
			case <-done:
				faults <- wrong
				return
			default:
			}
			now := h.Cells()
			if now < last || now > api.MaxHeap {
				wrong++
			}
			last = now
		}
	}()
	for i := range 3000 {
		h.New(i % 1000)
	}
	close(done)
	if wrong := <-faults; wrong != 0 {
		t.Error(wrong)
	}
	if total := h.Cells(); counted.Load() != int64(total) || total <= api.MaxHeap-1000 || total > api.MaxHeap {
		t.Error(total)
	}
}
