package comp

import (
	"math/rand"
	"slices"
	"testing"

	"runnel/api"
)

// eachGraph goes through all graphs of so many nodes, lists in increasing order.
func eachGraph(size int, do func(next [][]int)) {
	next := make([][]int, size)
	for steps := range 1 << (size * size) {
		for n := range next {
			next[n] = nil
			for m := range next {
				if steps>>(n*size+m)&1 != 0 {
					next[n] = append(next[n], m)
				}
			}
		}
		do(next)
	}
}

// TestSmallGraphs covers K1 to K4: all graphs of up to four nodes.
func TestSmallGraphs(t *testing.T) {
	graphs := 0
	comps := make([]int, 5)
	for size := range 5 {
		eachGraph(size, func(next [][]int) {
			graphs++
			comps[len(hold(t, next).comps)]++
		})
	}
	if graphs != 1+2+16+512+65536 || slices.Min(comps) < 1 {
		t.Error(graphs, comps)
	}
}

// TestSmallGraphsTurned covers K1 to K4: lists in decreasing order, with what is no node between, and with each node twice, answer the same.
func TestSmallGraphsTurned(t *testing.T) {
	for size := range 4 {
		eachGraph(size, func(next [][]int) {
			other := make([][]int, size)
			for n, list := range next {
				for _, m := range slices.Backward(list) {
					other[n] = append(other[n], m, -1, size)
				}
				other[n] = append(other[n], list...)
			}
			hold(t, other)
			if !same(Components(other), Components(next)) || !same(Above(other), Above(next)) {
				t.Fatal("another answer", next, other)
			}
		})
	}
}

// random is a graph of so many nodes, most of which lead to some few others, near ones and far ones, and now and then to what is no node.
func random(r *rand.Rand, size int) [][]int {
	next := make([][]int, size)
	most := 1 + r.Intn(3)
	for n := range next {
		for range r.Intn(most + 1) {
			switch r.Intn(12) {
			case 0:
				next[n] = append(next[n], strange[r.Intn(len(strange))])
			case 1:
				next[n] = append(next[n], size+r.Intn(2))
			case 2, 3, 4:
				next[n] = append(next[n], max(0, n-3)+r.Intn(6))
			default:
				next[n] = append(next[n], r.Intn(size))
			}
		}
		if len(next[n]) > 0 && r.Intn(4) == 0 {
			next[n] = append(next[n], next[n][r.Intn(len(next[n]))])
		}
		r.Shuffle(len(next[n]), func(i, j int) { next[n][i], next[n][j] = next[n][j], next[n][i] })
	}
	return next
}

func TestRandomGraphs(t *testing.T) {
	r := rand.New(rand.NewSource(1))
	one, many, several, alone := 0, 0, 0, 0
	for i := range 4000 {
		m := hold(t, random(r, i%40))
		switch {
		case len(m.comps) == 1:
			one++
		case len(m.comps) > 8:
			many++
		}
		for _, c := range m.comps {
			if len(c) > 2 {
				several++
			}
			if len(c) == 1 && m.ways[c[0]][c[0]] {
				alone++
			}
		}
	}
	if one < 100 || many < 1000 || several < 900 || alone < 1000 {
		t.Error("too little is seen", one, many, several, alone)
	}
}

// planted is a graph whose components are known: each of these is made a ring with some ways across, and leads to some of those ahead of it.
type planted struct {
	next  [][]int
	comps [][]int // any of them leads only to those ahead of it
	leads [][]int // to which it leads, by place among comps
}

func plant(r *rand.Rand, size, most int) planted {
	p := planted{next: make([][]int, size)}
	for left := r.Perm(size); len(left) > 0; {
		some := min(len(left), 1+r.Intn(most))
		p.comps = append(p.comps, left[:some:some])
		left = left[some:]
	}
	p.leads = make([][]int, len(p.comps))
	for at, c := range p.comps {
		for i, n := range c {
			if len(c) > 1 {
				p.next[n] = append(p.next[n], c[(i+1)%len(c)])
			}
			if r.Intn(5) == 0 {
				p.next[n] = append(p.next[n], c[r.Intn(len(c))])
			}
			if at > 0 && r.Intn(3) == 0 {
				p.link(r, at, max(0, at-1-r.Intn(9)), n)
			}
			if at > 0 && r.Intn(9) == 0 {
				p.link(r, at, r.Intn(at), n)
			}
		}
	}
	for _, c := range p.comps {
		slices.Sort(c)
	}
	return p
}

// link leads from a node of one component to any node of another one.
func (p *planted) link(r *rand.Rand, from, to, n int) {
	c := p.comps[to]
	p.next[n] = append(p.next[n], c[r.Intn(len(c))])
	if r.Intn(2) == 0 {
		slices.Reverse(p.next[n])
	}
	if !slices.Contains(p.leads[from], to) {
		p.leads[from] = append(p.leads[from], to)
	}
}

// order is the places of the components, as K2 orders them: each time all that are left are asked.
func (p planted) order() []int {
	var order []int
	gone := make([]bool, len(p.comps))
	isFree := func(c int) bool {
		return !slices.ContainsFunc(p.leads[c], func(to int) bool { return !gone[to] })
	}
	for range p.comps {
		first := -1
		for c, nodes := range p.comps {
			if !gone[c] && (first < 0 || nodes[0] < p.comps[first][0]) && isFree(c) {
				first = c
			}
		}
		gone[first] = true
		order = append(order, first)
	}
	return order
}

// TestPlantedGraphs covers K2 to K4: graphs of some thousand nodes, such as the walk goes through in one go and such as it doesn't.
func TestPlantedGraphs(t *testing.T) {
	r := rand.New(rand.NewSource(2))
	for i, most := range []int{1, 1, 2, 3, 8, 40, 300, 3000, 9000} {
		for _, size := range []int{1 + r.Intn(30), 1 + r.Intn(300), 3000, 3 * api.MaxNodes} {
			p := plant(r, size, most)
			order := p.order()
			number := make([]int, len(order))
			for c, at := range order {
				number[at] = c
			}
			var comps, above [][]int
			for _, at := range order {
				comps = append(comps, p.comps[at])
				var list []int
				for _, to := range p.leads[at] {
					list = append(list, number[to])
				}
				slices.Sort(list)
				above = append(above, list)
			}
			if !same(Components(p.next), comps) || !same(Above(p.next), above) {
				t.Fatal("other components", i, size)
			}
			holdK4(t, p.next)
		}
	}
}

// TestEqualGraphs covers K2: with other numbers for its nodes, a graph has the same components, each with those numbers.
func TestEqualGraphs(t *testing.T) {
	r := rand.New(rand.NewSource(3))
	for range 300 {
		next := random(r, 1+r.Intn(60))
		to := r.Perm(len(next))
		other := make([][]int, len(next))
		for n, list := range next {
			for _, m := range list {
				if m >= 0 && m < len(next) {
					other[to[n]] = append(other[to[n]], to[m])
				}
			}
		}
		var want [][]int
		for _, c := range Components(next) {
			var nodes []int
			for _, n := range c {
				nodes = append(nodes, to[n])
			}
			slices.Sort(nodes)
			want = append(want, nodes)
		}
		got := Components(other)
		slices.SortFunc(want, slices.Compare)
		slices.SortFunc(got, slices.Compare)
		if !same(got, want) {
			t.Fatalf("%v, not %v", got, want)
		}
	}
}
