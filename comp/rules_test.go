package comp

import (
	"math"
	"math/rand"
	"slices"
	"strconv"
	"strings"
	"sync"
	"testing"
)

// samples are graphs of all sorts.
func samples() [][][]int {
	list := [][][]int{nil, {nil}, {{0}}, {{0, 1, -1, 0}}, sample(), {{2, 1}, {0}, {3, 9, -1}, {3}}, {strange, {0, 1}, strange}, {{4, 2}, {3, 3}, {0, 1}, {1}, {}, {4, 0, 6}, {5, 5, 7}}}
	r := rand.New(rand.NewSource(21))
	for i := range 12 {
		list = append(list, random(r, i), plant(r, 10+i, 1+i).next)
	}
	return list
}

func copied(next [][]int) [][]int {
	lists := slices.Clone(next)
	for n, list := range lists {
		lists[n] = slices.Clone(list)
	}
	return lists
}

func told(lists ...[]int) string {
	var text strings.Builder
	for _, list := range lists {
		for _, n := range list {
			text.WriteString(strconv.Itoa(n) + " ")
		}
		text.WriteString("; ")
	}
	return text.String()
}

// calls are all that may be asked of a graph, each with what it answers as a text.
func calls(size int) []func(next [][]int) string {
	list := []func(next [][]int) string{
		func(next [][]int) string { return told(Components(next)...) },
		func(next [][]int) string { return told(Number(next)) },
		func(next [][]int) string { return told(Above(next)...) },
	}
	for a := -1; a <= size; a++ {
		list = append(list,
			func(next [][]int) string { return told(Reach(next, a)) },
			func(next [][]int) string { return strconv.FormatBool(Cyclic(next, a)) })
		for b := -1; b <= size; b++ {
			list = append(list, func(next [][]int) string { return strconv.FormatBool(Both(next, a, b)) })
		}
	}
	return list
}

// said is all that is answered about a graph.
func said(next [][]int) string {
	text := ""
	for _, call := range calls(len(next)) {
		text += call(next) + "\n"
	}
	return text
}

// TestSameAnswers covers P4 of the document: the same calls, in any order, with calls about other graphs between, and about another copy.
func TestSameAnswers(t *testing.T) {
	r := rand.New(rand.NewSource(22))
	graphs := samples()
	var first []string
	for _, next := range graphs {
		first = append(first, said(next))
	}
	for i, next := range slices.Backward(graphs) {
		if said(next) != first[i] || said(copied(next)) != first[i] || said(next) != first[i] {
			t.Error("another answer", next)
		}
	}
	for range 3 {
		for _, i := range r.Perm(len(graphs)) {
			list := calls(len(graphs[i]))
			got := make([]string, len(list))
			for _, at := range r.Perm(len(list)) {
				got[at] = list[at](graphs[i]) + "\n"
			}
			if strings.Join(got, "") != first[i] {
				t.Error("another answer in another order", graphs[i])
			}
		}
	}
}

// TestManyAsk covers P4 of the document: several goroutines ask about one graph at the same time.
func TestManyAsk(t *testing.T) {
	for _, next := range samples() {
		want := said(next)
		got := make([]string, 8)
		var wait sync.WaitGroup
		for i := range got {
			wait.Go(func() { got[i] = said(next) })
		}
		wait.Wait()
		for _, text := range got {
			if text != want {
				t.Error("another answer beside others", next)
			}
		}
	}
}

// TestArgumentsStay covers P3 of the document: nothing of a graph is changed, and nothing beyond its lists is read.
func TestArgumentsStay(t *testing.T) {
	beyond := []int{0, 1, 2, 3, -1, math.MaxInt}
	for _, next := range samples() {
		want := said(next)
		long := copied(next)
		for n, list := range long {
			long[n] = append(list, beyond...)[:len(list)]
		}
		long = append(long, []int{0}, []int{1, 0}, []int{2})[:len(next)]
		before := copied(long)
		if got := said(long); got != want {
			t.Fatalf("%s, not %s, of %v", got, want, next)
		}
		if !same(long, before) {
			t.Error("a graph is changed", long, before)
		}
		for n, list := range long {
			if more := list[len(list) : len(list)+len(beyond)]; !slices.Equal(more, beyond) {
				t.Error("a list is changed beyond its end", n, more)
			}
		}
		if more := long[len(long) : len(long)+3]; !same(more, [][]int{{0}, {1, 0}, {2}}) {
			t.Error("a graph is changed beyond its end", more)
		}
	}
}

// TestSharedLists covers P3 of the document: a graph whose lists are all pieces of one is read like any other.
func TestSharedLists(t *testing.T) {
	all := []int{3, 1, -1, 0, 2, 9, 1}
	var next [][]int
	for n := range 5 {
		next = append(next, all[n:n+2])
	}
	want := said(copied(next))
	if got := said(next); got != want || !slices.Equal(all, []int{3, 1, -1, 0, 2, 9, 1}) {
		t.Error(got, want, all)
	}
	hold(t, next)
}

// spoil overwrites lists as far as their memory goes.
func spoil(lists ...[]int) {
	for _, list := range lists {
		list = list[:cap(list)]
		for i := range list {
			list[i] = -7
		}
	}
}

// TestNothingIsKept covers P3 of the document: a graph that is changed afterwards changes no answer that was given, and what is answered of it then hangs on what it is then.
func TestNothingIsKept(t *testing.T) {
	for _, next := range samples() {
		mine := copied(next)
		comps, above, number := Components(mine), Above(mine), Number(mine)
		var reach [][]int
		for n := range mine {
			reach = append(reach, Reach(mine, n))
		}
		before := told(slices.Concat(comps, above, reach, [][]int{number})...)
		spoil(mine...)
		if told(slices.Concat(comps, above, reach, [][]int{number})...) != before {
			t.Error("an answer is a part of the graph", next)
		}
		hold(t, mine)
		copy(mine, copied(next))
		if said(mine) != said(next) {
			t.Error("another answer of a graph that was another one", next)
		}
	}
}

// TestAnswersAreNew covers P3 of the document: a caller may change an answer as far as its memory goes, which no other list of it, no other answer and no graph shares.
func TestAnswersAreNew(t *testing.T) {
	for _, next := range samples() {
		want := said(next)
		mine := copied(next)
		for _, call := range []func() [][]int{
			func() [][]int { return Components(mine) },
			func() [][]int { return Above(mine) },
			func() [][]int { return [][]int{Number(mine)} },
			func() [][]int {
				var lists [][]int
				for n := range mine {
					lists = append(lists, Reach(mine, n))
				}
				return lists
			},
		} {
			other := call()
			before := copied(other)
			for at := range call() {
				lists := call()
				rest := copied(lists)
				spoil(lists[at])
				for i := range lists {
					if i != at && !slices.Equal(lists[i], rest[i]) {
						t.Error("two lists share their memory", at, i, next)
					}
				}
			}
			lists := call()
			spoil(lists...)
			clear(lists[:cap(lists)])
			if !same(other, before) {
				t.Error("two answers share their memory", next)
			}
			if said(mine) != want || !same(mine, next) {
				t.Error("an answer is a part of the graph, or of the next answer", next)
			}
		}
	}
}

// TestNothingWithoutANode covers P2 of the document: of what is no node there is nothing, and the same of no graph at all.
func TestNothingWithoutANode(t *testing.T) {
	for _, next := range samples() {
		for _, n := range append([]int{len(next)}, strange...) {
			if got := Reach(next, n); len(got) != 0 {
				t.Error(n, got, next)
			}
			if Both(next, n, 0) || Both(next, 0, n) || Cyclic(next, n) {
				t.Error(n, next)
			}
		}
	}
	if len(Components(nil)) != 0 || len(Number(nil)) != 0 || len(Above(nil)) != 0 {
		t.Error("something of nothing")
	}
}

// TestEmptyLists covers P5 of the document: whether a list without a number is nil or not is all the same.
func TestEmptyLists(t *testing.T) {
	for _, next := range samples() {
		for _, empty := range [][]int{nil, {}, make([]int, 0, 5)} {
			other := copied(next)
			for n, list := range other {
				if len(list) == 0 {
					other[n] = empty
				}
			}
			if said(other) != said(next) {
				t.Error("another answer", empty == nil, next)
			}
		}
	}
}

// number is one of any sort, most often near the nodes.
func number(r *rand.Rand, size int) int {
	switch r.Intn(9) {
	case 0:
		return strange[r.Intn(len(strange))]
	case 1:
		return int(r.Uint64())
	}
	return r.Intn(size+2) - 1
}

// TestTotality covers P1 of the document: all calls return, for graphs and numbers of any sort.
func TestTotality(t *testing.T) {
	r := rand.New(rand.NewSource(23))
	for range 20000 {
		size := r.Intn(7)
		next := make([][]int, size)
		for n := range next {
			for range r.Intn(5) {
				next[n] = append(next[n], number(r, size))
			}
		}
		m := hold(t, next)
		a, b := number(r, size), number(r, size)
		if Both(next, a, b) != m.connected(a, b) || Cyclic(next, a) != (m.isNode(a) && m.ways[a][a]) || !slices.Equal(Reach(next, b), m.reach(b)) {
			t.Fatal(a, b, next)
		}
	}
}
