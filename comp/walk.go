package comp

import (
	"slices"

	"runnel/api"
)

const (
	// deepest is how many calls of the walk lie in one another at most: a stack has an end, while a way through a graph may be as long as there are nodes. A graph with a node for each of a tree is still walked in one go.
	deepest = api.MaxNodes

	nobody = -1
)

// walk is what is known of a graph while it is walked: lists by node, but for open.
type walk struct {
	done  []int // how many of those that it leads to are dealt with
	from  []int // the node from which the walk came to it, or nobody
	came  []int // when the walk came to it, in nodes from 1 on; 0 before that
	low   []int // the least came of an open node to which a way from it is known
	least []int // the least node of its component; nobody while it is open
	open  []int // the nodes that the walk came to whose component may yet grow
	count int   // to how many nodes the walk came
}

func newWalk(size int) *walk {
	return &walk{
		done:  make([]int, size),
		from:  make([]int, size),
		came:  make([]int, size),
		low:   make([]int, size),
		least: make([]int, size),
	}
}

// leasts is, by node, the least node of its component.
func leasts(next [][]int) []int {
	w := newWalk(len(next))
	// visit goes on at a node and answers where the walk is to go on then: at the node from which it came there, or at one that lies too deep for this call.
	var visit func(n, depth int) int
	visit = func(n, depth int) int {
		for w.done[n] < len(next[n]) {
			m := next[n][w.done[n]]
			w.done[n]++
			if !isNode(next, m) {
				continue
			}
			if w.came[m] > 0 {
				w.meet(n, m)
				continue
			}
			w.enter(m, n)
			if depth == deepest {
				return m
			}
			if at := visit(m, depth+1); at != n {
				return at
			}
		}
		w.leave(n)
		return w.from[n]
	}
	for n := range next {
		if w.came[n] > 0 {
			continue
		}
		w.enter(n, nobody)
		for at := n; at != nobody; {
			at = visit(at, 0)
		}
	}
	return w.least
}

func (w *walk) enter(n, from int) {
	w.count++
	w.came[n], w.low[n] = w.count, w.count
	w.from[n], w.least[n] = from, nobody
	w.open = append(w.open, n)
}

// meet is for a step to a node that the walk came to before.
func (w *walk) meet(n, m int) {
	if w.least[m] == nobody {
		w.low[n] = min(w.low[n], w.came[m])
	}
}

// leave is for a node with which the walk is through. If no way leads from it to an open node that the walk came to earlier, it and the open ones that came later are a component; otherwise it is one with the node from which the walk came.
func (w *walk) leave(n int) {
	if w.low[n] < w.came[n] {
		back := w.from[n]
		w.low[back] = min(w.low[back], w.low[n])
		return
	}
	first := len(w.open) - 1
	for w.open[first] != n {
		first--
	}
	least := slices.Min(w.open[first:])
	for _, m := range w.open[first:] {
		w.least[m] = least
	}
	w.open = w.open[:first]
}
