package comp

import "container/heap"

// numbered is, by node, the number of its component, and how many components there are. Until a component has its number, it is told by its least node.
func numbered(next [][]int) ([]int, int) {
	least := leasts(next)
	before, waits := between(next, least)
	var ready queue
	for n := range next {
		if least[n] == n && waits[n] == 0 {
			ready = append(ready, n) // an increasing list is a heap
		}
	}
	number, count := make([]int, len(next)), 0
	for len(ready) > 0 {
		c := heap.Pop(&ready).(int)
		number[c] = count
		count++
		for _, b := range before[c] {
			waits[b]--
			if waits[b] == 0 {
				heap.Push(&ready, b)
			}
		}
	}
	for n := range number {
		number[n] = number[least[n]]
	}
	return number, count
}

// between is, by component, from which others steps lead to it, and how many steps lead from it to others. A step counts as often as a list has it.
func between(next [][]int, least []int) (before [][]int, waits []int) {
	before, waits = make([][]int, len(next)), make([]int, len(next))
	for n, after := range next {
		from := least[n]
		for _, m := range after {
			if isNode(next, m) && least[m] != from {
				before[least[m]] = append(before[least[m]], from)
				waits[from]++
			}
		}
	}
	return before, waits
}

// queue is the components that reach no other one without a number: a heap, the one with the least node first.
type queue []int

func (q queue) Len() int           { return len(q) }
func (q queue) Less(i, j int) bool { return q[i] < q[j] }
func (q queue) Swap(i, j int)      { q[i], q[j] = q[j], q[i] }
func (q *queue) Push(n any)        { *q = append(*q, n.(int)) }

func (q *queue) Pop() any {
	last := len(*q) - 1
	n := (*q)[last]
	*q = (*q)[:last]
	return n
}
