package rule

import (
	"slices"

	"runnel/flow"
)

const (
	none = -1 // the Raise of a node that has none
	end  = -1 // the place of the End, which is no node
)

// spot is a node and what is known of it; it tells others by their places.
type spot struct {
	node    int
	isEntry bool
	ways    []int // where its branches lead
	next    int   // the nearest that it passes beside itself, or end
}

// branches is where the branches of a node lead. That of an Entry to the End is left out: it comes last, and nothing is controlled by it.
func branches(n flow.Node) []int {
	list := slices.Clone(n.Next)
	if n.Raise != none {
		list = append(list, n.Raise)
	}
	return list
}

// index is who controls whom.
type index struct {
	edges []Edge
	on    [][]int // by place: the places of those that control it
	over  [][]int // by place: the places of those that it controls
}

func indexOf(spots []spot) index {
	x := index{on: make([][]int, len(spots)), over: make([][]int, len(spots))}
	for from, s := range spots {
		for way, to := range s.ways {
			for _, place := range controlled(spots, from, to) {
				x.edges = append(x.edges, Edge{s.node, way, spots[place].node})
				x.note(from, place)
			}
		}
		slices.Sort(x.over[from])
	}
	return x
}

// note notes that a node controls another one, unless that was noted of an earlier branch: as the nodes come one by one, the last one noted would be the same then.
func (x *index) note(from, to int) {
	if on := x.on[to]; len(on) > 0 && on[len(on)-1] == from {
		return
	}
	x.on[to] = append(x.on[to], from)
	x.over[from] = append(x.over[from], to)
}

// controlled is what a node controls by a branch to another one, in increasing order. Whatever a node passes beside itself, it passes by way of its Next, which lies on the chain of each of its branches: so a branch controls what lies on its chain ahead of that. An Entry passes only itself, so that its branches control the whole chain, while a branch to it has no chain but the Entry.
func controlled(spots []spot, from, to int) []int {
	until := spots[from].next
	if spots[from].isEntry {
		until = end
	}
	var places []int
	for at := to; at != until && at != end; at = spots[at].next {
		places = append(places, at)
		if spots[to].isEntry {
			break
		}
	}
	slices.Sort(places)
	return places
}
