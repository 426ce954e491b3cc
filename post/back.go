package post

import "runnel/flow"

const none = -1 // the Raise of a node that has none

// isLinked tells whether control stays among the nodes of a procedure, in all of them.
func isLinked(g flow.Graph) bool {
	for _, n := range g.Nodes {
		for _, next := range n.Next {
			if !isOf(g, next, n.Proc) {
				return false
			}
		}
		if n.Raise != none && !isOf(g, n.Raise, n.Proc) {
			return false
		}
	}
	return true
}

func isOf(g flow.Graph, n, proc int) bool {
	return 0 <= n && n < len(g.Nodes) && g.Nodes[n].Proc == proc
}

// isLast tells whether the End comes after a node.
func isLast(n flow.Node) bool { return n.Kind == flow.Exit || n.Kind == flow.Fail }

// before is, by node, from where control comes to it.
func before(g flow.Graph) [][]int {
	lists := make([][]int, len(g.Nodes))
	for from, n := range g.Nodes {
		for _, to := range n.Next {
			lists[to] = append(lists[to], from)
		}
		if n.Raise != none {
			lists[n.Raise] = append(lists[n.Raise], from)
		}
	}
	return lists
}

// backward is the nodes from which an end is reached, each of them ahead of the others that it passes: the walk leads from the ends backwards, and so through what a node passes before it comes to the node, which it is done with first.
func backward(g flow.Graph) []int {
	w := walk{before: before(g), seen: make([]bool, len(g.Nodes))}
	for n := range g.Nodes {
		if isLast(g.Nodes[n]) && !w.seen[n] {
			w.from(n)
		}
	}
	return w.done
}

// walk goes as deep as it can before it turns back.
type walk struct {
	before [][]int // by node: where the walk may yet go from it
	seen   []bool
	done   []int // in the order in which the walk left them
}

// from keeps the way back in a list: as calls in one another, a long way would need a stack as long.
func (w *walk) from(n int) {
	w.seen[n] = true
	for open := []int{n}; len(open) > 0; {
		last := open[len(open)-1]
		rest := w.before[last]
		if len(rest) == 0 {
			w.done = append(w.done, last)
			open = open[:len(open)-1]
			continue
		}
		w.before[last] = rest[1:]
		if !w.seen[rest[0]] {
			w.seen[rest[0]] = true
			open = append(open, rest[0])
		}
	}
}
