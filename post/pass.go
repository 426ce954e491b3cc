package post

import (
	"slices"

	"runnel/bits"
	"runnel/flow"
)

// after is, by place, the places of what comes next. After an Exit and a Fail the End comes, wherever else they may lead, so that they pass nothing that follows.
func (p *Post) after(g flow.Graph) [][]int {
	lists := make([][]int, len(p.nodes))
	for place, n := range p.nodes {
		if isLast(g.Nodes[n]) {
			continue
		}
		for _, next := range g.After(n) {
			lists[place] = append(lists[place], p.places[next])
		}
	}
	return lists
}

// passing is, by place, what is passed of the block of places that begins with one. All of it may be, until some way to the End is seen to avoid it; going from the ends backwards, that is soon known.
func passing(after [][]int, first int) []bits.Set {
	sets := slices.Repeat([]bits.Set{firstPlaces(len(after) - first)}, len(after))
	same := 0 // so many places, one behind the other, have kept their sets
rounds:
	for {
		for place, next := range slices.Backward(after) {
			set := common(sets, next).With(place - first)
			if !set.Same(sets[place]) {
				sets[place], same = set, 0
				continue
			}
			same++
			if same == len(after) {
				break rounds
			}
		}
	}
	return sets
}

// firstPlaces is the first so many places of a block, or all that there is room for.
func firstPlaces(count int) bits.Set {
	places := make([]int, min(count, room))
	for i := range places {
		places[i] = i
	}
	return bits.Of(places)
}

// common is what all of some places pass; nothing, if these are none.
func common(sets []bits.Set, places []int) bits.Set {
	if len(places) == 0 {
		return bits.Set{}
	}
	all := sets[places[0]]
	for _, place := range places[1:] {
		all = all.And(sets[place])
	}
	return all
}
