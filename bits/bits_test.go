package bits

import (
	"math"
	"math/rand"
	"slices"
	"strconv"
	"strings"
	"testing"

	"runnel/api"
)

// edges: numbers around the bounds of a set and of a word, and those far outside.
var edges = []int{math.MinInt, math.MinInt + 1, -4096, -65, -64, -63, -1, 0, 1, 62, 63, 64, 65, 127, 128, 4031, 4032, 4094, 4095, 4096, 4097, 1 << 32, math.MaxInt - 1, math.MaxInt}

// model: a set as a table, the plainest way to say what a Set must do.
type model [4096]bool

func modelOf(l []int) model {
	var m model
	for _, n := range l {
		if 0 <= n && n < len(m) {
			m[n] = true
		}
	}
	return m
}

func (m model) has(n int) bool { return 0 <= n && n < len(m) && m[n] }

func (m model) list() []int {
	var l []int
	for n, in := range m {
		if in {
			l = append(l, n)
		}
	}
	return l
}

func (m model) next(n int) int {
	for i := max(n, 0); i < len(m); i++ {
		if m[i] {
			return i
		}
	}
	return -1
}

// combine keeps the numbers of which keep says so.
func combine(a, b model, keep func(inA, inB bool) bool) []int {
	var l []int
	for n := range a {
		if keep(a[n], b[n]) {
			l = append(l, n)
		}
	}
	return l
}

// unfold reads a text back, number by number, or answers false if it is not written as it must be.
func unfold(text string) ([]int, bool) {
	var l []int
	if text == "" {
		return l, true
	}
	for part := range strings.SplitSeq(text, ",") {
		from, to, run := strings.Cut(part, "-")
		a, err := strconv.Atoi(from)
		if err != nil || strconv.Itoa(a) != from {
			return nil, false
		}
		b := a
		if run {
			b, err = strconv.Atoi(to)
			if err != nil || strconv.Itoa(b) != to || b-a < 2 {
				return nil, false
			}
		}
		for n := a; n <= b; n++ {
			l = append(l, n)
		}
	}
	return l, true
}

func span(from, to int) []int {
	var l []int
	for n := from; n <= to; n++ {
		l = append(l, n)
	}
	return l
}

// samples are lists of all kinds: with duplicates, unsorted, with numbers that fit no set, sparse and dense.
func samples() [][]int {
	out := [][]int{nil, {}, {0}, {63}, {64}, {4095}, {-1}, {4096}, edges, span(0, 4095), span(60, 70), span(4090, 4100), {5, 3, 5, -1, 4096}}
	r := rand.New(rand.NewSource(1))
	for _, size := range []int{1, 3, 10, 60, 300, 5000} {
		for _, top := range []int{8, 130, 4096, 5000} {
			l := make([]int, size)
			for i := range l {
				l[i] = r.Intn(top+20) - 20
			}
			out = append(out, l)
		}
	}
	return out
}

func wantList(t *testing.T, what string, s Set, want []int) {
	t.Helper()
	if got := s.List(); !slices.Equal(got, want) {
		t.Errorf("%s: %v, not %v", what, got, want)
	}
}

func TestExamples(t *testing.T) {
	wantList(t, "Of", Of([]int{5, 3, 5, -1, 4096}), []int{3, 5})
	if got := Of([]int{1, 2, 3, 5, 6}).Text(); got != "1-3,5,6" {
		t.Error(got)
	}
	wantList(t, "Or, Minus", Of([]int{1, 2}).Or(Of([]int{2, 9})).Minus(Of([]int{1})), []int{2, 9})
	if a, b := Of([]int{3}).Next(2), Of([]int{3}).Next(4); a != 3 || b != -1 {
		t.Error(a, b)
	}
}

func TestB1ZeroIsEmpty(t *testing.T) {
	var zero Set
	for _, n := range edges {
		if zero.Has(n) {
			t.Error(n)
		}
		if !zero.Without(n).Same(zero) {
			t.Error(n)
		}
	}
	if zero.Count() != 0 || len(zero.List()) != 0 || !zero.Same(Of(nil)) || !zero.Same(Of([]int{-1, 4096})) {
		t.Error(zero.Count(), zero.List())
	}
}

func TestB1OfHasCountList(t *testing.T) {
	for i, l := range samples() {
		s, m := Of(l), modelOf(l)
		wantList(t, "sample "+strconv.Itoa(i), s, m.list())
		if s.Count() != len(m.list()) {
			t.Error(i, s.Count())
		}
		for n := -70; n < 4170; n++ {
			if s.Has(n) != m.has(n) {
				t.Fatal(i, n)
			}
		}
		for _, n := range edges {
			if s.Has(n) != m.has(n) {
				t.Error(i, n)
			}
		}
	}
}

func TestB1OneNumber(t *testing.T) {
	for n := range 4096 {
		s := Of([]int{n})
		if s.Count() != 1 || !s.Has(n) || !slices.Equal(s.List(), []int{n}) {
			t.Fatal(n, s.List())
		}
		if !s.Without(n).Same(Set{}) || !(Set{}).With(n).Same(s) {
			t.Fatal(n)
		}
	}
}

func TestB1WithWithout(t *testing.T) {
	for i, l := range samples() {
		s := Of(l)
		for _, n := range append(slices.Clone(edges), 2, 66, 100) {
			m := modelOf(l)
			if 0 <= n && n <= 4095 {
				m[n] = true
			}
			wantList(t, "With, sample "+strconv.Itoa(i), s.With(n), m.list())
			if 0 <= n && n <= 4095 {
				m[n] = false
			}
			wantList(t, "Without, sample "+strconv.Itoa(i), s.Without(n), m.list())
		}
	}
}

func TestB1NumbersThatDoNotFit(t *testing.T) {
	s := Of([]int{0, 63, 64, 4095})
	for _, n := range []int{math.MinInt, -4096, -64, -1, 4096, 4097, 1 << 32, math.MaxInt} {
		if s.Has(n) || !s.With(n).Same(s) || !s.Without(n).Same(s) {
			t.Error(n)
		}
	}
}

func TestB1NoCallChangesASet(t *testing.T) {
	a, b := []int{0, 1, 63, 64, 4095}, []int{1, 2, 64, 100}
	s, u := Of(a), Of(b)
	held := s
	calls := map[string]func(){
		"With":    func() { s.With(7) },
		"Without": func() { s.Without(64) },
		"Has":     func() { s.Has(64) },
		"Or":      func() { s.Or(u) },
		"And":     func() { s.And(u) },
		"Minus":   func() { s.Minus(u) },
		"Count":   func() { s.Count() },
		"List": func() {
			l := s.List()
			l[0] = 9
		},
		"Same":   func() { s.Same(u) },
		"Within": func() { s.Within(u) },
		"Next":   func() { s.Next(1) },
		"Text":   func() { s.Text() },
		"a chain": func() {
			s.With(7).Without(0).Or(u).Minus(s)
		},
	}
	for name, call := range calls {
		call()
		wantList(t, name+", the set", s, a)
		wantList(t, name+", the other set", u, b)
		wantList(t, name+", a copy", held, a)
	}
	held = held.With(9)
	wantList(t, "a copy that went on", s, a)
}

func TestB2Combine(t *testing.T) {
	all := samples()
	for i, a := range all {
		for j, b := range all {
			s, u, m, k := Of(a), Of(b), modelOf(a), modelOf(b)
			what := strconv.Itoa(i) + " and " + strconv.Itoa(j)
			wantList(t, "Or "+what, s.Or(u), combine(m, k, func(x, y bool) bool { return x || y }))
			wantList(t, "And "+what, s.And(u), combine(m, k, func(x, y bool) bool { return x && y }))
			outside := combine(m, k, func(x, y bool) bool { return x && !y })
			wantList(t, "Minus "+what, s.Minus(u), outside)
			if s.Within(u) != (len(outside) == 0) {
				t.Error("Within", what)
			}
			if s.Same(u) != (m == k) || (s == u) != (m == k) {
				t.Error("Same", what)
			}
		}
	}
}

func TestB2SameAndWithin(t *testing.T) {
	s := Of([]int{1, 64, 4095})
	if !s.Same(Of([]int{4095, 64, 1, 64})) || !s.Within(s) || !(Set{}).Within(s) || s.Within(Set{}) {
		t.Error("equal sets, or the empty one")
	}
	for _, n := range []int{0, 63, 65, 4094} {
		if s.Same(s.With(n)) || s.With(n).Within(s) || !s.Within(s.With(n)) {
			t.Error("one more", n)
		}
	}
	for _, n := range s.List() {
		if s.Same(s.Without(n)) || s.Within(s.Without(n)) || !s.Without(n).Within(s) {
			t.Error("one less", n)
		}
	}
}

func TestB2Next(t *testing.T) {
	for i, l := range samples() {
		s, m := Of(l), modelOf(l)
		for n := -70; n < 4170; n += 1 + i%3 {
			if got := s.Next(n); got != m.next(n) {
				t.Fatal(i, n, got)
			}
		}
		for _, n := range edges {
			if got := s.Next(n); got != m.next(n) {
				t.Error(i, n, got)
			}
		}
	}
}

func TestB2TextRuns(t *testing.T) {
	for _, c := range []struct {
		list []int
		want string
	}{
		{nil, ""},
		{[]int{-1, 4096}, ""},
		{[]int{0}, "0"},
		{[]int{0, 1}, "0,1"},
		{[]int{0, 1, 2}, "0-2"},
		{[]int{6, 5}, "5,6"},
		{[]int{7, 5, 6, 6}, "5-7"},
		{[]int{5, 6, 7, 8}, "5-8"},
		{[]int{1, 3, 5}, "1,3,5"},
		{[]int{1, 2, 4, 5, 7, 8}, "1,2,4,5,7,8"},
		{[]int{1, 2, 4, 5, 6, 8, 10, 11, 12}, "1,2,4-6,8,10-12"},
		{[]int{63, 64}, "63,64"},
		{[]int{62, 63, 64}, "62-64"},
		{[]int{63, 64, 65}, "63-65"},
		{[]int{4094, 4095, 4096}, "4094,4095"},
		{[]int{4093, 4094, 4095}, "4093-4095"},
		{[]int{-1, 0, 1, 4095}, "0,1,4095"},
		{span(0, 4095), "0-4095"},
		{span(64, 127), "64-127"},
	} {
		if got := Of(c.list).Text(); got != c.want {
			t.Errorf("%q, not %q", got, c.want)
		}
	}
}

func TestB2TextSaysTheElements(t *testing.T) {
	for i, l := range samples() {
		s := Of(l)
		text := s.Text()
		got, ok := unfold(text)
		if !ok || !slices.Equal(got, modelOf(l).list()) {
			t.Errorf("sample %d: %q", i, text)
		}
		if longRun(text) {
			t.Errorf("sample %d: %q writes a long run one by one", i, text)
		}
	}
}

// longRun tells whether parts of a text beside each other could have been one run of three or more.
func longRun(text string) bool {
	parts := strings.Split(text, ",")
	for i := 1; i < len(parts); i++ {
		if last(parts[i-1])+1 != first(parts[i]) {
			continue
		}
		if strings.Contains(parts[i-1]+parts[i], "-") || i > 1 && last(parts[i-2])+1 == first(parts[i-1]) {
			return true
		}
	}
	return false
}

func first(part string) int {
	from, _, _ := strings.Cut(part, "-")
	n, _ := strconv.Atoi(from)
	return n
}

func last(part string) int {
	n, _ := strconv.Atoi(part[strings.Index(part, "-")+1:])
	return n
}

func TestB3Laws(t *testing.T) {
	var sets []Set
	for _, l := range samples() {
		sets = append(sets, Of(l))
	}
	for i, s := range sets {
		if !Of(s.List()).Same(s) || Of(s.List()) != s {
			t.Error("Of(List)", i)
		}
		for j, u := range sets {
			if s.Or(u) != u.Or(s) || s.And(u) != u.And(s) {
				t.Error("commutative", i, j)
			}
			if s.Within(u) != s.Or(u).Same(u) {
				t.Error("within", i, j)
			}
			for k, v := range sets {
				if s.Or(u).Or(v) != s.Or(u.Or(v)) || s.And(u).And(v) != s.And(u.And(v)) {
					t.Error("associative", i, j, k)
				}
				if s.Or(u).Minus(v) != s.Minus(v).Or(u.Minus(v)) {
					t.Error("minus", i, j, k)
				}
			}
		}
	}
}

// TestB3WaysOfMaking: however a set came about, equal elements are equal sets.
func TestB3WaysOfMaking(t *testing.T) {
	want := Of([]int{0, 64, 4095})
	for i, s := range []Set{
		Of([]int{4095, 0, 64, 0}),
		Set{}.With(64).With(4095).With(0).With(0),
		Of([]int{0, 1, 64, 4095}).Without(1).Without(1).Without(-1),
		Of(span(0, 4095)).Minus(Of(append(span(1, 63), span(65, 4094)...))),
		Of(want.List()),
	} {
		if s != want || !s.Same(want) {
			t.Error(i, s.List())
		}
	}
}

// TestP1Totality covers P1 and P7: no argument makes a call panic.
func TestP1Totality(t *testing.T) {
	for _, s := range []Set{{}, Of(edges), Of(span(0, 4095))} {
		for _, n := range edges {
			s.Has(n)
			s.With(n).Text()
			s.Without(n).List()
			if got := s.Next(n); got < -1 || got > 4095 {
				t.Error(n, got)
			}
		}
	}
	if got := Of(make([]int, 1<<20)); got.Text() != "0" {
		t.Error(got.Text())
	}
}

func TestP3ArgumentsAndResults(t *testing.T) {
	l := []int{5, 3, 9, 4096, 7, 8}
	held := slices.Clone(l)
	s := Of(l[:3])
	if !slices.Equal(l, held) {
		t.Error("the argument changed", l)
	}
	wantList(t, "elements beyond the length", s, []int{3, 5, 9})
	l[0] = 11
	wantList(t, "a later change of the argument", s, []int{3, 5, 9})
	a, b := s.List(), s.List()
	a[0] = 100
	_ = append(a[:1], 200, 300)
	if !slices.Equal(b, []int{3, 5, 9}) {
		t.Error("two lists share memory", b)
	}
	wantList(t, "a change of a result", s, []int{3, 5, 9})
}

func TestP4SameAnswers(t *testing.T) {
	for i, l := range samples() {
		mixed := slices.Clone(l)
		slices.Reverse(mixed)
		s, u := Of(l), Of(mixed)
		if s.Text() != u.Text() || s.Text() != s.Text() || s.Count() != u.Count() || !slices.Equal(s.List(), u.List()) {
			t.Error(i)
		}
	}
}

// TestRoomForTrees: a set can hold the places of all nodes of a tree.
func TestRoomForTrees(t *testing.T) {
	if got := Of(span(0, api.MaxNodes-1)).Count(); got != api.MaxNodes {
		t.Error(got)
	}
}
