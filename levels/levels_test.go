package levels

import (
	"math"
	"math/rand"
	"slices"
	"strconv"
	"strings"
	"sync"
	"testing"

	"runnel/api"
)

// noPlaces are numbers that are places of no level, for a lattice of count levels.
func noPlaces(count int) []int {
	return []int{math.MinInt, math.MinInt + 1, -1 << 32, -16, -1, count, count + 1, 16, 17, 31, 32, 33, 63, 64, 1 << 16, 1 << 32, 1 << 62, math.MaxInt - 1, math.MaxInt}
}

// model is an order as a table, the plainest way to say what a Lattice must do.
type model [][]bool

// modelOf is what is reflexive, transitive and holds the pairs: it adds what is missing until nothing is.
func modelOf(count int, pairs [][2]int) model {
	m := make(model, count)
	for a := range m {
		m[a] = make([]bool, count)
		m[a][a] = true
	}
	for _, p := range pairs {
		m[p[0]][p[1]] = true
	}
	for m.step() {
	}
	return m
}

func (m model) step() bool {
	changed := false
	for a := range m {
		for b := range m {
			for c := range m {
				if m[a][b] && m[b][c] && !m[a][c] {
					m[a][c] = true
					changed = true
				}
			}
		}
	}
	return changed
}

// turned is the order upside down.
func (m model) turned() model {
	t := modelOf(len(m), nil)
	for a := range m {
		for b := range m {
			t[b][a] = m[a][b]
		}
	}
	return t
}

// join is the level above both that is below each level above both, or -1.
func (m model) join(a, b int) int {
	for c := range m {
		least := m[a][c] && m[b][c]
		for d := range m {
			if m[a][d] && m[b][d] && !m[c][d] {
				least = false
			}
		}
		if least {
			return c
		}
	}
	return -1
}

func (m model) bottom() int {
	for a, above := range m {
		if !slices.Contains(above, false) {
			return a
		}
	}
	return -1
}

func (m model) isLattice() bool {
	t := m.turned()
	for a := range m {
		for b := range m {
			if a != b && m[a][b] && m[b][a] || m.join(a, b) < 0 || t.join(a, b) < 0 {
				return false
			}
		}
	}
	return true
}

func (m model) covers() [][2]int {
	var covers [][2]int
	for a := range m {
		for b := range m {
			between := false
			for c := range m {
				if c != a && c != b && m[a][c] && m[c][b] {
					between = true
				}
			}
			if a != b && m[a][b] && !between {
				covers = append(covers, [2]int{a, b})
			}
		}
	}
	return covers
}

// names are count names, not in the order of bytes.
func names(count int) []string {
	var l []string
	for i := range count {
		l = append(l, string(rune('a'+(i*7+3)%26))+strconv.Itoa(i))
	}
	return l
}

func named(names []string, pairs [][2]int) [][2]string {
	var l [][2]string
	for _, p := range pairs {
		l = append(l, [2]string{names[p[0]], names[p[1]]})
	}
	return l
}

// pairs are "a<b" each.
func pairs(text string) [][2]string {
	var l [][2]string
	for _, p := range strings.Fields(text) {
		a, b, _ := strings.Cut(p, "<")
		l = append(l, [2]string{a, b})
	}
	return l
}

func mustNew(t *testing.T, names []string, below [][2]string) *Lattice {
	t.Helper()
	l, e := New(names, below)
	if e != api.OK || l == nil {
		t.Fatal(names, below, e)
	}
	return l
}

// hold holds a lattice against its model, call by call.
func hold(t *testing.T, l *Lattice, names []string, m model) {
	t.Helper()
	turned := m.turned()
	if l.Len() != len(m) || !slices.Equal(l.Names(), names) || l.Bottom() != m.bottom() || l.Top() != turned.bottom() {
		t.Error(names, l.Len(), l.Names(), l.Bottom(), l.Top())
	}
	if got := l.Covers(); !slices.Equal(got, m.covers()) {
		t.Error("Covers", names, got, m.covers())
	}
	for a := range m {
		if l.Place(names[a]) != a {
			t.Error("Place", names, a)
		}
		for b := range m {
			if l.Below(a, b) != m[a][b] {
				t.Error("Below", names, m, a, b)
			}
			if got := l.Join(a, b); got != m.join(a, b) {
				t.Error("Join", names, m, a, b, got)
			}
			if got := l.Meet(a, b); got != turned.join(a, b) {
				t.Error("Meet", names, m, a, b, got)
			}
		}
	}
}

// shape is an order that is a lattice, as places and pairs.
type shape struct {
	what  string
	count int
	pairs [][2]int
}

func chain(count int) shape {
	s := shape{what: "chain of " + strconv.Itoa(count), count: count}
	for i := 1; i < count; i++ {
		s.pairs = append(s.pairs, [2]int{i - 1, i})
	}
	return s
}

// fan is a level below, one above, and the others side by side.
func fan(count int) shape {
	s := shape{what: "fan of " + strconv.Itoa(count), count: count}
	for i := 1; i < count-1; i++ {
		s.pairs = append(s.pairs, [2]int{0, i}, [2]int{i, count - 1})
	}
	return s
}

// grid is pairs of a place in a row and one in a column.
func grid(wide, high int) shape {
	s := shape{what: "grid of " + strconv.Itoa(wide) + " and " + strconv.Itoa(high), count: wide * high}
	for i := range wide * high {
		if i%wide+1 < wide {
			s.pairs = append(s.pairs, [2]int{i, i + 1})
		}
		if i+wide < wide*high {
			s.pairs = append(s.pairs, [2]int{i, i + wide})
		}
	}
	return s
}

// cube is the sets of dims things, each below those with one more.
func cube(dims int) shape {
	s := shape{what: "cube of " + strconv.Itoa(dims), count: 1 << dims}
	for i := range s.count {
		for d := range dims {
			if i&(1<<d) == 0 {
				s.pairs = append(s.pairs, [2]int{i, i | 1<<d})
			}
		}
	}
	return s
}

// mixed gives the levels of a shape other places, and the pairs another order.
func (s shape) mixed(r *rand.Rand) shape {
	to := r.Perm(s.count)
	m := shape{what: s.what + ", mixed", count: s.count}
	for _, i := range r.Perm(len(s.pairs)) {
		m.pairs = append(m.pairs, [2]int{to[s.pairs[i][0]], to[s.pairs[i][1]]})
	}
	return m
}

// shapes are lattices of 1 to 16 levels.
func shapes() []shape {
	plain := []shape{chain(1), chain(2), chain(3), chain(7), chain(15), chain(16), fan(3), fan(4), fan(5), fan(15), fan(16), grid(3, 3), grid(2, 8), grid(5, 3), grid(4, 4), cube(2), cube(3), cube(4),
		{"with a waist", 7, [][2]int{{0, 1}, {0, 2}, {1, 3}, {2, 3}, {3, 4}, {3, 5}, {4, 6}, {5, 6}}},
		{"of five, one side longer", 5, [][2]int{{0, 1}, {1, 2}, {2, 4}, {0, 3}, {3, 4}}},
		{"with pairs that say nothing new", 3, [][2]int{{0, 1}, {0, 1}, {1, 2}, {0, 2}, {1, 1}, {2, 2}}},
	}
	out := slices.Clone(plain)
	r := rand.New(rand.NewSource(2))
	for _, s := range plain {
		for range 3 {
			out = append(out, s.mixed(r))
		}
	}
	return out
}

func (s shape) lattice(t *testing.T) *Lattice {
	t.Helper()
	return mustNew(t, names(s.count), named(names(s.count), s.pairs))
}

func TestExamples(t *testing.T) {
	l := mustNew(t, []string{"low", "a", "b", "high"}, pairs("low<a low<b a<high b<high"))
	low, a, b, high := l.Place("low"), l.Place("a"), l.Place("b"), l.Place("high")
	if low != 0 || a != 1 || b != 2 || high != 3 {
		t.Error(low, a, b, high)
	}
	if l.Join(a, b) != high || l.Meet(a, b) != low || l.Join(low, a) != a || l.Bottom() != low || l.Top() != high {
		t.Error(l.Join(a, b), l.Meet(a, b), l.Join(low, a), l.Bottom(), l.Top())
	}
	wantError(t, []string{"low", "a", "b"}, "low<a low<b", api.ErrOrder)
	wantError(t, []string{"x", "y"}, "x<y y<x", api.ErrOrder)
}

func wantError(t *testing.T, names []string, below string, want api.Errno) {
	t.Helper()
	if l, e := New(names, pairs(below)); l != nil || e != want {
		t.Errorf("%q, %q: %v, not %v; a lattice: %v", names, below, e, want, l != nil)
	}
}

func TestO1NameByByte(t *testing.T) {
	for c := range 256 {
		letter := 'a' <= c && c <= 'z'
		inner := letter || '0' <= c && c <= '9' || c == '_'
		b := string([]byte{byte(c)})
		if Name(b) != letter || Name(b+"a") != letter {
			t.Error("first", c)
		}
		if Name("a"+b) != inner || Name("a"+b+"z") != inner || Name(strings.Repeat("a", 19)+b) != inner {
			t.Error("inner or last", c)
		}
	}
}

func TestO1NameLengthAndRunes(t *testing.T) {
	for size := range 70 {
		want := 1 <= size && size <= 20
		if Name(strings.Repeat("z", size)) != want {
			t.Error(size)
		}
	}
	for _, s := range []string{"", " ", "a ", " a", "a\n", "a-b", "a.b", "_", "_a", "0", "9a", "A", "aB", "é", "aé", "a\x00", "\xff", "a\xff", "ａ", strings.Repeat("a", 20) + "\n", strings.Repeat("a", 1<<20)} {
		if Name(s) {
			t.Errorf("%q", s)
		}
	}
	for _, s := range []string{"a", "z", "low", "a_", "a_1", "z9", "a0123456789_______zz"} {
		if !Name(s) {
			t.Errorf("%q", s)
		}
	}
}

func TestO1HowMany(t *testing.T) {
	for _, none := range [][]string{nil, {}} {
		wantError(t, none, "", api.ErrMany)
		wantError(t, none, "x<y", api.ErrMany)
	}
	for _, count := range []int{1, 2, 15, 16} {
		s := chain(count)
		if l := s.lattice(t); l.Len() != count || l.Bottom() != 0 || l.Top() != count-1 {
			t.Error(count, l.Len())
		}
	}
	for _, count := range []int{17, 18, 32, 33, 65, 5000} {
		n := names(count)
		if l, e := New(n, named(n, chain(count).pairs)); l != nil || e != api.ErrMany {
			t.Error(count, e)
		}
	}
}

func TestO1NamesOfLevels(t *testing.T) {
	long := strings.Repeat("a", 20)
	mustNew(t, []string{long, "b"}, [][2]string{{long, "b"}})
	for _, bad := range []string{"", long + "a", "A", "_a", "1a", "a b", "a\x00", "é"} {
		wantError(t, []string{bad}, "", api.ErrName)
		wantError(t, []string{bad, "b"}, "", api.ErrName)
		wantError(t, []string{"b", "c", bad}, "b<c", api.ErrName)
	}
	wantError(t, []string{"a", "a"}, "", api.ErrThere)
	wantError(t, []string{"a", "b", "a"}, "a<b", api.ErrThere)
	wantError(t, []string{"a", "b", "c", "c"}, "a<b b<c", api.ErrThere)
	last := names(16)
	last[15] = last[0]
	wantError(t, last, "", api.ErrThere)
}

func TestO1NamesOfPairs(t *testing.T) {
	for _, below := range []string{"a<x", "x<a", "x<x", "a<b b<x", "a<b x<b", "a<", "<a", "<", "a<A", "b<" + strings.Repeat("a", 21)} {
		wantError(t, []string{"a", "b"}, below, api.ErrName)
	}
	for _, strange := range []string{"", "a ", "a\x00", "aa", "\xff", strings.Repeat("a", 1<<20)} {
		if l, e := New([]string{"a"}, [][2]string{{"a", strange}}); l != nil || e != api.ErrName {
			t.Errorf("%.30q: %v", strange, e)
		}
		if l, e := New([]string{"a"}, [][2]string{{strange, "a"}}); l != nil || e != api.ErrName {
			t.Errorf("%.30q: %v", strange, e)
		}
	}
}

// TestO1WhichErrorFirst: of several errors, the one that the promise names first.
func TestO1WhichErrorFirst(t *testing.T) {
	many := names(17)
	wantError(t, many, "", api.ErrMany)
	manyBad := slices.Clone(many)
	manyBad[0], manyBad[1], manyBad[2] = "A", "b", "b"
	wantError(t, manyBad, "x<y", api.ErrMany)
	wantError(t, []string{"a", "a", "A"}, "a<x", api.ErrName)
	wantError(t, []string{"A", "A"}, "", api.ErrName)
	wantError(t, []string{"", ""}, "", api.ErrName)
	wantError(t, []string{"a", "a"}, "a<x", api.ErrThere)
	wantError(t, []string{"a", "a"}, "", api.ErrThere)
	wantError(t, []string{"a", "b", "b"}, "a<b b<a x<a", api.ErrThere)
	wantError(t, []string{"a", "b"}, "a<b b<a a<x", api.ErrName)
	wantError(t, []string{"a", "b"}, "x<a a<b b<a", api.ErrName)
	wantError(t, []string{"a", "b"}, "x<y", api.ErrName)
}

func TestO1NoLattice(t *testing.T) {
	for _, c := range []struct{ names, below string }{
		{"a b", ""},
		{"a b", "a<a b<b"},
		{"a b", "a<b b<a"},
		{"a b c", "a<b b<c c<a"},
		{"l a b h", "l<a a<b b<a b<h"},
		{"l a b h", "l<a l<b a<h b<h h<l"},
		{"low a b", "low<a low<b"},
		{"a b high", "a<high b<high"},
		{"l h x", "l<h"},
		{"l a b c d h", "l<a l<b a<c a<d b<c b<d c<h d<h"},
		{"a b c d h", "a<c a<d b<c b<d c<h d<h"},
		{"l a b c d", "l<a l<b a<c a<d b<c b<d"},
	} {
		wantError(t, strings.Fields(c.names), c.below, api.ErrOrder)
	}
	n := names(16)
	wantError(t, n, "", api.ErrOrder)
	ring := append(named(n, chain(16).pairs), [2]string{n[15], n[0]})
	if l, e := New(n, ring); l != nil || e != api.ErrOrder {
		t.Error(e)
	}
}

// TestAllSmallOrders covers O1 to O3: each relation of up to four levels is held against its model.
func TestAllSmallOrders(t *testing.T) {
	for count := 1; count <= 4; count++ {
		var all [][2]int
		for i := range count * count {
			if i/count != i%count {
				all = append(all, [2]int{i / count, i % count})
			}
		}
		lattices := 0
		for chosen := range 1 << len(all) {
			var some [][2]int
			for i, p := range all {
				if chosen&(1<<i) != 0 {
					some = append(some, p)
				}
			}
			if holdRelation(t, count, some) {
				lattices++
			}
		}
		if lattices == 0 {
			t.Error("no lattice of", count)
		}
	}
}

// holdRelation holds what New answers against the model, and tells whether it is a lattice.
func holdRelation(t *testing.T, count int, some [][2]int) bool {
	t.Helper()
	n, m := names(count), modelOf(count, some)
	l, e := New(n, named(n, some))
	if m.isLattice() != (e == api.OK) || (l != nil) != (e == api.OK) || e != api.OK && e != api.ErrOrder {
		t.Error(count, some, e)
		return false
	}
	if l != nil {
		hold(t, l, n, m)
	}
	return l != nil
}

// TestRandomOrders covers O1 to O3 for more levels: with a level below all and one above all, else there is hardly ever a lattice.
func TestRandomOrders(t *testing.T) {
	r := rand.New(rand.NewSource(3))
	lattices := 0
	const tries = 3000
	for range tries {
		count := 5 + r.Intn(12)
		to := r.Perm(count)
		var some [][2]int
		for i := 1; i < count; i++ {
			some = append(some, [2]int{to[0], to[i]}, [2]int{to[i], to[count-1]})
		}
		for range r.Intn(3 * count) {
			a, b := r.Intn(count), r.Intn(count)
			some = append(some, [2]int{to[min(a, b)], to[max(a, b)]})
		}
		if holdRelation(t, count, some) {
			lattices++
		}
	}
	if lattices < 100 || lattices > tries-100 {
		t.Error("lattices:", lattices)
	}
}

// TestShapes covers O1 to O3 for lattices of all sizes, and for their levels at any places.
func TestShapes(t *testing.T) {
	for _, s := range shapes() {
		m := modelOf(s.count, s.pairs)
		if !m.isLattice() {
			t.Fatal(s.what)
		}
		hold(t, s.lattice(t), names(s.count), m)
	}
}

// TestShapesWithAPairTurned covers O1: one pair the other way round makes a ring or takes a bound away, or it is another lattice.
func TestShapesWithAPairTurned(t *testing.T) {
	for _, s := range shapes() {
		for i, p := range s.pairs {
			added := append(slices.Clone(s.pairs), [2]int{p[1], p[0]})
			if p[0] != p[1] && holdRelation(t, s.count, added) {
				t.Error(s.what, "a ring", p)
			}
			holdRelation(t, s.count, slices.Delete(slices.Clone(s.pairs), i, i+1))
		}
	}
}

func TestO2Place(t *testing.T) {
	n := []string{"low", "l", "lo", "low_", "z9"}
	l := mustNew(t, n, pairs("low<l l<lo lo<low_ low_<z9"))
	for i, name := range n {
		if l.Place(name) != i {
			t.Error(name, l.Place(name))
		}
	}
	for _, name := range []string{"", "x", "lowx", "Low", "low ", "low\x00", "z", "\xff", strings.Repeat("l", 1<<20)} {
		if l.Place(name) != -1 {
			t.Errorf("%.30q: %d", name, l.Place(name))
		}
	}
}

func TestO2PlacesThatAreNone(t *testing.T) {
	for _, s := range []shape{chain(1), chain(2), cube(2), chain(15), cube(4)} {
		l := s.lattice(t)
		for _, bad := range noPlaces(s.count) {
			for other := range s.count {
				if l.Below(bad, other) || l.Below(other, bad) || l.Join(bad, other) != -1 || l.Join(other, bad) != -1 || l.Meet(bad, other) != -1 || l.Meet(other, bad) != -1 {
					t.Error(s.what, bad, other)
				}
			}
			if l.Below(bad, bad) || l.Join(bad, bad) != -1 || l.Meet(bad, bad) != -1 || l.Join(bad, -1) != -1 || l.Meet(bad, -1) != -1 {
				t.Error(s.what, bad)
			}
		}
	}
}

func TestO2OneLevel(t *testing.T) {
	for _, below := range []string{"", "a<a", "a<a a<a"} {
		l := mustNew(t, []string{"a"}, pairs(below))
		if l.Len() != 1 || !l.Below(0, 0) || l.Join(0, 0) != 0 || l.Meet(0, 0) != 0 || l.Bottom() != 0 || l.Top() != 0 || len(l.Covers()) != 0 {
			t.Error(below)
		}
	}
}

func TestO3Covers(t *testing.T) {
	for _, c := range []struct {
		names, below string
		want         [][2]int
	}{
		{"a b", "a<b", [][2]int{{0, 1}}},
		{"b a", "a<b", [][2]int{{1, 0}}},
		{"a b c", "a<b b<c a<c", [][2]int{{0, 1}, {1, 2}}},
		{"c b a", "a<c b<c a<b a<a", [][2]int{{1, 0}, {2, 1}}},
		{"low a b high", "low<a low<b a<high b<high low<high", [][2]int{{0, 1}, {0, 2}, {1, 3}, {2, 3}}},
		{"high b a low", "low<a low<b a<high b<high", [][2]int{{1, 0}, {2, 0}, {3, 1}, {3, 2}}},
		{"h l a b c", "l<a a<b b<h l<c c<h l<h", [][2]int{{1, 2}, {1, 4}, {2, 3}, {3, 0}, {4, 0}}},
	} {
		if got := mustNew(t, strings.Fields(c.names), pairs(c.below)).Covers(); !slices.Equal(got, c.want) {
			t.Error(c.names, got, c.want)
		}
	}
}

func TestO4Laws(t *testing.T) {
	for _, s := range shapes() {
		l := s.lattice(t)
		for a := range s.count {
			for b := range s.count {
				if l.Join(a, b) != l.Join(b, a) || l.Meet(a, b) != l.Meet(b, a) {
					t.Error("commutative", s.what, a, b)
				}
				if l.Below(a, b) != (l.Join(a, b) == b) || l.Below(a, b) != (l.Meet(a, b) == a) {
					t.Error("below", s.what, a, b)
				}
				for c := range s.count {
					if l.Join(l.Join(a, b), c) != l.Join(a, l.Join(b, c)) || l.Meet(l.Meet(a, b), c) != l.Meet(a, l.Meet(b, c)) {
						t.Error("associative", s.what, a, b, c)
					}
				}
			}
		}
	}
}

func TestO4LatticeOfCovers(t *testing.T) {
	for _, s := range shapes() {
		l := s.lattice(t)
		again := mustNew(t, l.Names(), named(l.Names(), l.Covers()))
		hold(t, again, l.Names(), modelOf(s.count, s.pairs))
		if !slices.Equal(again.Covers(), l.Covers()) {
			t.Error(s.what, again.Covers())
		}
	}
}

// TestP1Totality covers P1 and P7: no argument makes a call panic, and not even a lattice that New did not make does.
func TestP1Totality(t *testing.T) {
	var zero Lattice
	for _, l := range []*Lattice{&zero, chain(1).lattice(t), cube(4).lattice(t)} {
		for _, a := range append(noPlaces(l.Len()), 0, 1, 2) {
			for _, b := range append(noPlaces(l.Len()), 0, 1, 2) {
				l.Below(a, b)
				l.Join(a, b)
				l.Meet(a, b)
			}
		}
		l.Bottom()
		l.Top()
		l.Names()
		l.Covers()
		l.Place("")
	}
	if zero.Len() != 0 || len(zero.Names()) != 0 || zero.Below(0, 0) || zero.Join(0, 0) != -1 || zero.Meet(0, 0) != -1 || zero.Place("a") != -1 {
		t.Error("a lattice that New did not make")
	}
	n := []string{"a", "b"}
	if l, e := New(n, slices.Repeat([][2]string{{"a", "b"}}, 1<<18)); e != api.OK || !l.Below(0, 1) {
		t.Error(e)
	}
}

func TestP3Arguments(t *testing.T) {
	n := []string{"low", "a", "b", "high", "a", "A"}
	below := pairs("low<a low<b a<high b<high high<low x<y")
	heldNames, heldBelow := slices.Clone(n), slices.Clone(below)
	l := mustNew(t, n[:4], below[:4])
	if !slices.Equal(n, heldNames) || !slices.Equal(below, heldBelow) {
		t.Error("the arguments changed", n, below)
	}
	want := modelOf(4, [][2]int{{0, 1}, {0, 2}, {1, 3}, {2, 3}})
	for i := range n {
		n[i] = "turned"
	}
	for i := range below {
		below[i] = [2]string{"high", "low"}
	}
	hold(t, l, heldNames[:4], want)
	for _, bad := range []string{"low<x", "a<b b<a"} {
		n, below := slices.Clone(heldNames[:4]), pairs(bad)
		if _, e := New(n, below); e == api.OK || !slices.Equal(n, heldNames[:4]) || !slices.Equal(below, pairs(bad)) {
			t.Error("the arguments of a call with an error changed", e, n, below)
		}
	}
}

func TestP3Results(t *testing.T) {
	s := cube(3)
	l := s.lattice(t)
	heldNames, heldCovers := l.Names(), l.Covers()
	n, c := l.Names(), l.Covers()
	for i := range n {
		n[i] = "turned"
	}
	for i := range c {
		c[i] = [2]int{7, 7}
	}
	_ = append(n[:1], "x", "y")
	_ = append(c[:1], [2]int{9, 9})
	if !slices.Equal(heldNames, names(8)) || !slices.Equal(heldCovers, modelOf(8, s.pairs).covers()) {
		t.Error("an earlier answer changed", heldNames, heldCovers)
	}
	hold(t, l, names(8), modelOf(8, s.pairs))
	other := fan(8).lattice(t)
	hold(t, other, names(8), modelOf(8, fan(8).pairs))
	hold(t, l, names(8), modelOf(8, s.pairs))
}

// TestP4SameAnswers: neither the order of the pairs nor that of the calls is to be seen.
func TestP4SameAnswers(t *testing.T) {
	for _, s := range shapes() {
		n, below := names(s.count), named(names(s.count), s.pairs)
		slices.Reverse(below)
		first, second := s.lattice(t), mustNew(t, n, below)
		for a := range s.count {
			for b := range s.count {
				meet := first.Meet(a, b)
				join := second.Join(a, b)
				if first.Join(a, b) != join || second.Meet(a, b) != meet || first.Join(a, b) != join {
					t.Error(s.what, a, b)
				}
			}
		}
		if !slices.Equal(first.Covers(), second.Covers()) || !slices.Equal(first.Names(), second.Names()) {
			t.Error(s.what)
		}
	}
}

// TestWaysTablesWait: the tables are made by the first join or meet, and not ahead of it.
func TestWaysTablesWait(t *testing.T) {
	asks := map[string]func(l *Lattice){
		"Join": func(l *Lattice) { l.Join(1, 2) },
		"Meet": func(l *Lattice) { l.Meet(1, 2) },
	}
	for what, ask := range asks {
		l := cube(2).lattice(t)
		l.Below(0, 1)
		l.Covers()
		l.Bottom()
		l.Top()
		if l.joins != (table{}) || l.meets != (table{}) {
			t.Error(what, "tables that nobody needs")
		}
		ask(l)
		if l.joins[1][2] != 3 || l.meets[1][2] != 0 || l.joins[0][3] != 3 || l.meets[3][2] != 2 {
			t.Error(what, "no tables")
		}
	}
}

// TestWaysTablesOnce: what is in the tables answers, they are not made again.
func TestWaysTablesOnce(t *testing.T) {
	l := cube(2).lattice(t)
	l.Join(0, 0)
	l.joins[1][2], l.meets[1][2] = 1, 2
	if l.Join(1, 2) != 1 || l.Meet(1, 2) != 2 {
		t.Error("made again", l.Join(1, 2), l.Meet(1, 2))
	}
}

func TestWaysManyAskAtOnce(t *testing.T) {
	s := cube(4)
	for range 50 {
		l := s.lattice(t)
		var wait sync.WaitGroup
		for worker := range 8 {
			wait.Go(func() {
				for i := range 256 {
					a, b := (i+worker*32)%256/16, (i+worker*32)%16
					if l.Join(a, b) != a|b || l.Meet(a, b) != a&b {
						t.Error(a, b, l.Join(a, b), l.Meet(a, b))
					}
				}
			})
		}
		wait.Wait()
	}
}
