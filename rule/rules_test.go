package rule

import (
	"math"
	"math/rand"
	"slices"
	"strconv"
	"sync"
	"testing"

	"runnel/api"
	"runnel/flow"
)

const sample = "proc f(x int) int { while x < 5 { x = x + 1; } return x; } " + mainHead +
	"x = in lo; if x < 1 { out lo 1; } else { while b { x = x / 2; a[x] = 1; } } try { throw x; } catch y { return; } call f(1); a = new 2; }"

// samples are graphs of all sorts, such as are accepted and such as are not.
func samples(t *testing.T) []flow.Graph {
	t.Helper()
	_, g := program(t, sample)
	list := []flow.Graph{g, {}, {Procs: []int{1}}, graph(exit()), graph(step(0)), graph(raises(step(1, 0, 1), 0), exit()), graph(entry(1), exit(1), in(1, entry(3)), in(1, fail())), graph(entry(0, 1), exit(0))}
	m := maker{rand.New(rand.NewSource(31))}
	for i := range 10 {
		_, g := program(t, m.program(i%3, 1+i%3))
		list = append(list, g, random(m.Rand, m.Intn(14), 1+i%3))
	}
	return list
}

func copied(g flow.Graph) flow.Graph {
	c := flow.Graph{Nodes: slices.Clone(g.Nodes), Procs: slices.Clone(g.Procs)}
	for i := range c.Nodes {
		c.Nodes[i].Next = slices.Clone(c.Nodes[i].Next)
	}
	return c
}

func same(a, b flow.Graph) bool {
	return slices.Equal(a.Procs, b.Procs) && slices.EqualFunc(a.Nodes, b.Nodes, func(x, y flow.Node) bool {
		return x.Kind == y.Kind && x.At == y.At && x.Proc == y.Proc && x.Raise == y.Raise && slices.Equal(x.Next, y.Next)
	})
}

// calls are all that may be asked of one, each with what it answers as a text.
func calls(size int) []func(r *Rule) string {
	list := []func(r *Rule) string{func(r *Rule) string {
		text := ""
		for _, e := range r.Edges() {
			text += told([]int{e.From, e.Way, e.To})
		}
		return text
	}}
	for n := -2; n < size+2; n++ {
		list = append(list,
			func(r *Rule) string { return told(r.On(n)) },
			func(r *Rule) string { return told(r.Over(n)) },
			func(r *Rule) string { return told(r.All(n)) },
			func(r *Rule) string { return strconv.FormatBool(r.Free(n)) })
	}
	return list
}

func told(list []int) string {
	text := ""
	for _, n := range list {
		text += strconv.Itoa(n) + " "
	}
	return text + "; "
}

// said is all that one says; a line for what New refuses.
func said(g flow.Graph, proc int) string {
	r, e := New(g, proc)
	if r == nil {
		return "no " + e.Error()
	}
	return e.Error() + ": " + asked(r, len(g.Nodes))
}

func asked(r *Rule, size int) string {
	text := ""
	for _, call := range calls(size) {
		text += call(r)
	}
	return text
}

// TestSameAnswers covers P4 of the document: the same calls, on objects of their own and on the same one, in any order.
func TestSameAnswers(t *testing.T) {
	r := rand.New(rand.NewSource(32))
	graphs := samples(t)
	var first []string
	for _, g := range graphs {
		for proc := range 3 {
			first = append(first, said(g, proc))
		}
	}
	for i, g := range slices.Backward(graphs) {
		for proc := range 3 {
			if said(g, proc) != first[3*i+proc] || said(copied(g), proc) != first[3*i+proc] {
				t.Error("another answer", g, proc)
			}
			rule, e := New(g, proc)
			if e != api.OK {
				continue
			}
			list := calls(len(g.Nodes))
			got := make([]string, len(list))
			for range 2 {
				for _, at := range r.Perm(len(list)) {
					got[at] = list[at](rule)
				}
				for at, call := range list {
					if fresh := accepted(t, g, proc); call(fresh) != got[at] {
						t.Error("another answer in another order", at, g, proc)
					}
				}
			}
		}
	}
}

// TestManyAsk covers P4 of the document, and that the index is made once: several goroutines ask one that nobody has asked.
func TestManyAsk(t *testing.T) {
	for _, g := range samples(t) {
		for proc := range g.Procs {
			rule, e := New(g, proc)
			if e != api.OK {
				continue
			}
			list := calls(len(g.Nodes))
			got := make([]string, len(list))
			var wait sync.WaitGroup
			for at, call := range list {
				wait.Go(func() { got[at] = call(rule) })
			}
			wait.Wait()
			for at, call := range list {
				if got[at] != call(accepted(t, g, proc)) {
					t.Error("another answer beside others", at, g, proc)
				}
			}
		}
	}
}

// TestWaysOnce: there is no index until the first call that needs it, whichever that is, and then always the same.
func TestWaysOnce(t *testing.T) {
	_, g := program(t, sample)
	n := g.Entry(1) + 3
	for i, call := range []func(r *Rule){
		func(r *Rule) { r.Edges() },
		func(r *Rule) { r.On(n) },
		func(r *Rule) { r.Over(n) },
		func(r *Rule) { r.All(n) },
		func(r *Rule) { r.Free(n) },
	} {
		r := accepted(t, g, 1)
		if r.made.edges != nil || r.made.on != nil || r.made.over != nil {
			t.Fatal("an index that nobody needs yet")
		}
		call(r)
		if len(r.made.edges) == 0 {
			t.Fatal("no index behind a call", i)
		}
		edge, on := &r.made.edges[0], &r.made.on[0]
		asked(r, len(g.Nodes))
		if edge != &r.made.edges[0] || on != &r.made.on[0] {
			t.Fatal("the index is made again", i)
		}
	}
}

// TestArgumentsStay covers P3 of the document: nothing of a graph is changed, and nothing beyond its lists read.
func TestArgumentsStay(t *testing.T) {
	for _, g := range samples(t) {
		for proc := range 3 {
			want := said(g, proc)
			long := copied(g)
			for i, n := range long.Nodes {
				long.Nodes[i].Next = append(slices.Clone(n.Next), math.MaxInt, 0, -1)[:len(n.Next)]
			}
			long.Nodes = append(long.Nodes, step(0), exit(), entry(0))[:len(g.Nodes)]
			long.Procs = append(long.Procs, 0, 0, 0)[:len(g.Procs)]
			whole := flow.Graph{Nodes: long.Nodes[:len(g.Nodes)+3], Procs: long.Procs[:len(g.Procs)+3]}
			before := copied(whole)
			if got := said(long, proc); got != want {
				t.Fatalf("%s, not %s, of %v", got, want, g)
			}
			if !same(whole, before) {
				t.Fatal("a graph is changed", whole, before)
			}
			for i, n := range long.Nodes {
				if beyond := n.Next[len(n.Next) : len(n.Next)+3]; !slices.Equal(beyond, []int{math.MaxInt, 0, -1}) {
					t.Error("a list is changed beyond its end", i, beyond)
				}
			}
		}
	}
}

// TestNothingIsKept covers P3 of the document: a graph that is changed afterwards changes no answer, of one that was asked before and of one that wasn't.
func TestNothingIsKept(t *testing.T) {
	for _, g := range samples(t) {
		for proc := range 3 {
			want := said(g, proc)
			mine := copied(g)
			idle, e := New(mine, proc)
			if e != api.OK {
				continue
			}
			busy := accepted(t, mine, proc)
			asked(busy, len(g.Nodes))
			for i, n := range mine.Nodes {
				for j := range n.Next {
					n.Next[j] = (n.Next[j] + 1) % len(mine.Nodes)
				}
				mine.Nodes[i] = flow.Node{Kind: 5 - n.Kind, Proc: 1 - n.Proc, Raise: 0}
			}
			for i := range mine.Procs {
				mine.Procs[i] = -1
			}
			for _, r := range []*Rule{idle, busy} {
				if got := api.OK.Error() + ": " + asked(r, len(g.Nodes)); got != want {
					t.Errorf("%s, not %s, of %v", got, want, g)
				}
			}
		}
	}
}

// TestAnswersAreNew covers P3 of the document: a caller may change what was answered, as far as it goes.
func TestAnswersAreNew(t *testing.T) {
	for _, g := range samples(t) {
		before := copied(g)
		for proc := range g.Procs {
			r, e := New(g, proc)
			if e != api.OK {
				continue
			}
			want := asked(r, len(g.Nodes))
			for n := range g.Nodes {
				edges, again := r.Edges(), r.Edges()
				lists := [][]int{r.On(n), r.Over(n), r.All(n), r.On(n), r.Over(n), r.All(n)}
				for i, list := range lists[:3] {
					twin := slices.Clone(lists[i+3])
					spoil(list, -7)
					if !slices.Equal(lists[i+3], twin) {
						t.Error("two answers share their memory", i, n, g)
					}
				}
				twin := slices.Clone(again)
				spoil(edges, Edge{-7, -7, -7})
				if !slices.Equal(again, twin) {
					t.Error("two answers share their memory", g)
				}
			}
			if asked(r, len(g.Nodes)) != want {
				t.Error("an answer is a part of the object", g, proc)
			}
		}
		if !same(g, before) {
			t.Error("an answer is a part of the graph", g)
		}
	}
}

// spoil overwrites a list, and what there is beyond its end.
func spoil[T any](list []T, with T) {
	list = list[:cap(list)]
	for i := range list {
		list[i] = with
	}
}

// TestErrorsWithoutAnAnswer covers P2 of the document: either an object, or an error.
func TestErrorsWithoutAnAnswer(t *testing.T) {
	made, not := 0, 0
	for _, g := range samples(t) {
		for proc := -1; proc < 4; proc++ {
			switch r, e := New(g, proc); {
			case r == nil && e == api.ErrArg:
				not++
			case r != nil && e == api.OK:
				made++
			default:
				t.Error(r, e, g, proc)
			}
		}
	}
	if made < 30 || not < 30 {
		t.Error(made, not)
	}
}

// number is one of any sort, most often near the nodes.
func number(r *rand.Rand, size int) int {
	switch r.Intn(9) {
	case 0:
		return []int{math.MinInt, math.MaxInt, -2, -1, 4095, 4096, 1 << 32}[r.Intn(7)]
	case 1:
		return int(r.Uint64())
	}
	return r.Intn(size + 1)
}

// TestTotality covers P1 of the document: all calls return, for graphs that nobody should make, and for all numbers.
func TestTotality(t *testing.T) {
	r := rand.New(rand.NewSource(33))
	held := 0
	for range 30000 {
		size := r.Intn(5)
		g := flow.Graph{Procs: make([]int, r.Intn(3))}
		for range size {
			n := flow.Node{Kind: 1 + r.Intn(4), At: number(r, size), Proc: r.Intn(2) * r.Intn(2), Raise: -1}
			if r.Intn(4) == 0 {
				n.Kind, n.Proc, n.Raise = number(r, 5), number(r, 2), number(r, size)
			}
			for range r.Intn(3) {
				n.Next = append(n.Next, number(r, size-1))
			}
			g.Nodes = append(g.Nodes, n)
		}
		proc := number(r, len(g.Procs))
		if !holdOrRefuse(t, g, proc) {
			continue
		}
		held++
		rule, n := accepted(t, g, proc), int(r.Uint64())
		if len(rule.On(n)) > 0 || len(rule.Over(n)) > 0 || len(rule.All(n)) > 0 || rule.Free(n) {
			t.Error(n, g)
		}
	}
	if held < 2000 {
		t.Error(held)
	}
}

// TestZeroObject: one that New didn't make has no nodes.
func TestZeroObject(t *testing.T) {
	for _, n := range []int{math.MinInt, -2, -1, 0, 1, 4096, math.MaxInt} {
		var r Rule
		if r.Free(n) || len(r.All(n)) > 0 || len(r.On(n)) > 0 || len(r.Over(n)) > 0 || len(r.Edges()) > 0 {
			t.Error(n)
		}
	}
}

// TestWhatDoesNotMatter: the places of a tree that a graph tells, the numbers of its Procs, other Kinds than those of the ends, and whether an empty list is nil.
func TestWhatDoesNotMatter(t *testing.T) {
	r := rand.New(rand.NewSource(34))
	for _, g := range samples(t) {
		for proc := range 3 {
			want := said(g, proc)
			other := copied(g)
			for i := range other.Nodes {
				n := &other.Nodes[i]
				n.At = number(r, 9)
				if n.Kind == flow.Step {
					n.Kind = []int{0, 5, -1, math.MaxInt, flow.Step}[i%5]
				}
				if len(n.Next) == 0 {
					n.Next = []int{}
				}
			}
			for i := range other.Procs {
				other.Procs[i] = number(r, 9)
			}
			if got := said(other, proc); got != want {
				t.Errorf("%s, not %s, of %v", got, want, other)
			}
		}
	}
}
