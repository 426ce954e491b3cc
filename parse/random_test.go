package parse

import (
	"math/rand"
	"slices"
	"strings"
	"testing"

	"runnel/api"
	"runnel/token"
	"runnel/tree"
)

// maker makes texts that the grammar has, at random.
type maker struct {
	r      *rand.Rand
	rules  rules
	height map[string]int // of a row: how many rows in one another it takes at least
	left   int            // how many tokens there may still be, but for those that are needed to come to an end
}

func newMaker(seed int64) *maker {
	m := &maker{r: rand.New(rand.NewSource(seed)), rules: chapterRules, height: map[string]int{}}
	for range m.rules {
		for row, alternatives := range m.rules {
			for _, alternative := range alternatives {
				if h, ok := m.needs(alternative); ok && (m.height[row] == 0 || h+1 < m.height[row]) {
					m.height[row] = h + 1
				}
			}
		}
	}
	return m
}

// needs is the height of an alternative, if that is known.
func (m *maker) needs(alternative []string) (int, bool) {
	most := 0
	for _, word := range alternative {
		if _, ok := m.rules[word]; !ok {
			continue
		}
		if m.height[word] == 0 {
			return 0, false
		}
		most = max(most, m.height[word])
	}
	return most, true
}

// words are about so many tokens of a row, or fewer.
func (m *maker) words(row string, about int) []string {
	m.left = about
	return m.some(row)
}

func (m *maker) some(row string) []string {
	alternatives, ok := m.rules[row]
	if !ok {
		m.left--
		return m.word(row)
	}
	var fit [][]string
	for _, a := range alternatives {
		if h, _ := m.needs(a); m.left > 0 || h < m.height[row] {
			fit = append(fit, a)
		}
		if m.left > 0 && len(a) > 0 == m.repeats(row) { // Or programs would be short and have long expressions.
			fit = append(fit, a, a, a)
		}
	}
	var out []string
	for _, part := range fit[m.r.Intn(len(fit))] {
		out = append(out, m.some(part)...)
	}
	return out
}

// repeats tells whether a row is statements or procedures, one behind the other.
func (m *maker) repeats(row string) bool {
	first := m.rules[row][0]
	return len(first) == 2 && first[0] == row && (first[1] == "stmt" || first[1] == "proc")
}

func (m *maker) word(terminal string) []string {
	names := []string{"a", "b", "x", "_", "main", "lo", "hi", "_0", "an_array_of_20_bytes"}
	numbers := []string{"0", "1", "7", "42", "9223372036854775807"}
	switch terminal {
	case "NAME":
		return []string{names[m.r.Intn(len(names))]}
	case "NUMBER":
		return []string{numbers[m.r.Intn(len(numbers))]}
	case "End":
		return nil
	}
	return []string{strings.Trim(terminal, `"`)}
}

// text is words with something blank around each.
func (m *maker) text(words []string) string {
	gaps := []string{" ", "\n", "\t", "  ", "# (\n", " #\n\n", "\n\n# }{ $ 1a\n "}
	var b strings.Builder
	for _, w := range append(slices.Clone(words), "") {
		for range 1 + m.r.Intn(2) {
			b.WriteString(gaps[m.r.Intn(len(gaps))])
		}
		b.WriteString(w)
	}
	return b.String()
}

// changed is words with one of them missing, one more, or another one in its place, or with two changed about.
func (m *maker) changed(words []string) []string {
	out := slices.Clone(words)
	i := m.r.Intn(len(out) + 1)
	other := vocabulary[m.r.Intn(len(vocabulary))]
	if m.r.Intn(3) == 0 && len(words) > 0 {
		other = words[m.r.Intn(len(words))]
	}
	switch kind := m.r.Intn(4); {
	case kind == 0 || i == len(out):
		return slices.Insert(out, i, other)
	case kind == 1:
		return slices.Delete(out, i, i+1)
	case kind == 2 && i > 0:
		out[i], out[i-1] = out[i-1], out[i]
		return out
	}
	out[i] = other
	return out
}

var vocabulary = append(strings.Fields("var proc int bool arr fun in out if else while call return throw try catch new len true false"),
	strings.Fields("( ) { } [ ] , ; = == != < <= > >= + - * / % ! && || & x main 0 7")...)

// TestP1RandomPrograms: what the grammar makes is read, and what is nearly so is refused where the model refuses it.
func TestP1RandomPrograms(t *testing.T) {
	m, h := newMaker(1), newHolder()
	accepted, kinds := 0, map[int]int{}
	for i := range 1200 {
		words := m.words("program", i%120)
		s := m.text(words)
		h.hold(t, s)
		if x, _, e := Program(s); e == api.OK {
			accepted++
			for _, n := range x.Nodes {
				kinds[n.Kind]++
			}
		}
		h.hold(t, m.text(m.changed(words)))
		h.hold(t, m.text(m.changed(m.changed(words))))
		h.hold(t, strings.Join(words[:m.r.Intn(len(words)+1)], " "))
	}
	for kind := api.Program; kind <= api.Binary; kind++ {
		if accepted < 500 || kinds[kind] < 50 {
			t.Error("too few of the texts are programs, or have a kind of node", accepted, kind, kinds[kind])
		}
	}
}

func TestP1RandomExpressions(t *testing.T) {
	m, h := newMaker(2), newHolder()
	accepted := 0
	for i := range 2500 {
		words := m.words("only", i%70)
		s := strings.Join(words, " ")
		h.hold(t, s)
		if _, _, e := Expr(s); e == api.OK {
			accepted++
		}
		h.hold(t, m.text(m.changed(words)))
		h.hold(t, strings.Join(m.changed(m.changed(words)), " "))
	}
	if accepted < 1500 {
		t.Error("too few of the texts are expressions", accepted)
	}
}

// TestP1RandomOpen: the limit of what may be open, near it and beyond, with all that opens.
func TestP1RandomOpen(t *testing.T) {
	m, h := newMaker(3), newHolder()
	openers := []string{"(", "(", "(", "-", "!", "a[", "1 + (", "x * -", "(x) <", "-a[0] - ("}
	seen := map[api.Errno]int{}
	for i := range 168 {
		var b strings.Builder
		for range i % 56 {
			b.WriteString(openers[m.r.Intn(len(openers))])
			b.WriteByte(' ')
		}
		b.WriteString("x")
		s := b.String()
		closed := s + " " + strings.Join(closers(s), " ")
		for _, text := range []string{s, closed, closed + " ( 1 )", closed + " - ((((((((((((((((((((x", s + " [ 1 ] {", s + "(", s + "{", s + " -1"} {
			h.hold(t, text)
			h.hold(t, "proc f() { if a { out lo "+text+"; } }")
			_, _, e := Expr(text)
			seen[e]++
		}
	}
	for _, e := range []api.Errno{api.OK, api.ErrForm, api.ErrDeep} {
		if seen[e] < 50 {
			t.Error(e, seen[e])
		}
	}
}

// closers are the brackets that close what a text leaves open.
func closers(s string) []string {
	var out []string
	for _, c := range s {
		switch c {
		case '(':
			out = append(out, ")")
		case '[':
			out = append(out, "]")
		case ')', ']':
			out = out[:len(out)-1]
		}
	}
	slices.Reverse(out)
	return out
}

// TestP3RandomValid: a program's tree is valid, and blanks, comments and parentheses change nothing but offsets.
func TestP3RandomValid(t *testing.T) {
	m := newMaker(4)
	read := 0
	for i := range 2000 {
		words := m.words("program", i%120)
		plain, _, e := Program(strings.Join(words, " "))
		spaced, at, spacedE := Program(m.text(words))
		if e != spacedE || e != api.OK && at != 0 || !tree.Same(plain, spaced) {
			t.Fatalf("%q: %v, %v", words, e, spacedE)
		}
		if e != api.OK {
			continue
		}
		read++
		if !tree.Right(plain) || !tree.Right(spaced) {
			t.Fatalf("%q: not valid", words)
		}
	}
	if read < 1000 {
		t.Error(read)
	}
}

// TestP3RandomParentheses: each operand of a row is put into parentheses, one at a time and all at once.
func TestP3RandomParentheses(t *testing.T) {
	m := newMaker(5)
	for i := range 1500 {
		words := m.words("expr", i%40)
		s := strings.Join(words, " ")
		want, _, e := Expr(s)
		if e != api.OK || Nest(s) > 10 {
			continue
		}
		tokens, _, _ := token.Cut(s)
		all := parenthesized(drawExpr(tokens[:len(tokens)-1]), true)
		some := parenthesized(drawExpr(tokens[:len(tokens)-1]), false)
		for _, text := range []string{"(" + s + ")", "((\n" + s + "# )\n))", some, all} {
			got, at, e := Expr(text)
			if e == api.ErrDeep && at > 0 {
				continue
			}
			if e != api.OK || !tree.Same(got, want) {
				t.Fatalf("%q and %q: %d, %v", s, text, at, e)
			}
		}
	}
}

// parenthesized is an expression with parentheses around each operand, or only around those that need them.
func parenthesized(d *drawing, all bool) string {
	wrapped := func(i int) string {
		inner := parenthesized(d.kids[i], all)
		if all || d.kids[i].node.Kind == api.Binary {
			return "(" + inner + ")"
		}
		return inner
	}
	switch d.node.Kind {
	case api.Binary:
		return wrapped(0) + d.node.Text + wrapped(1)
	case api.Unary:
		return d.node.Text + wrapped(0)
	case api.Index:
		return d.node.Text + "[" + parenthesized(d.kids[0], all) + "]"
	}
	return leafText(d.node)
}
