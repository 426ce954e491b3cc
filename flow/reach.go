package flow

import "iter"

// reached goes through the nodes that are reached from a node, itself first, each of them once. Numbers that are no nodes, which a graph of Build doesn't have, are passed over.
func (g Graph) reached(from int) iter.Seq[int] {
	return func(yield func(n int) bool) {
		seen := make([]bool, len(g.Nodes))
		waiting := []int{from}
		for len(waiting) > 0 {
			n := waiting[len(waiting)-1]
			waiting = waiting[:len(waiting)-1]
			if !g.has(n) || seen[n] {
				continue
			}
			seen[n] = true
			if !yield(n) {
				return
			}
			waiting = append(waiting, g.After(n)...)
		}
	}
}

func (g Graph) has(n int) bool { return 0 <= n && n < len(g.Nodes) }
