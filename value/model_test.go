package value

import (
	"math"
	"math/big"
	"slices"
	"strings"
	"testing"

	"runnel/api"
	"runnel/parse"
	"runnel/tree"
	"runnel/types"
)

func leaf(kind int, text string, n int) api.Tree {
	return tree.Over(api.Node{Kind: kind, Text: text, N: n}, nil)
}

func over(kind int, text string, kids ...api.Tree) api.Tree {
	return tree.Over(api.Node{Kind: kind, Text: text}, kids)
}

func copied(t api.Tree) api.Tree {
	nodes := slices.Clone(t.Nodes)
	for i := range nodes {
		nodes[i].Kids = slices.Clone(nodes[i].Kids)
	}
	return api.Tree{Nodes: nodes, Root: t.Root}
}

// equalTrees holds all of two trees against each other; only nil and empty are the same.
func equalTrees(a, b api.Tree) bool {
	return a.Root == b.Root && slices.EqualFunc(a.Nodes, b.Nodes, func(x, y api.Node) bool {
		return x.Kind == y.Kind && x.N == y.N && x.At == y.At && x.Text == y.Text && slices.Equal(x.Kids, y.Kids)
	})
}

func equalArrays(a, b [][]int) bool { return slices.EqualFunc(a, b, slices.Equal) }

// parsed is the tree of a program without an error.
func parsed(t *testing.T, text string) api.Tree {
	t.Helper()
	x, at, e := parse.Program(text)
	if e != api.OK {
		t.Fatalf("%q: %d, %v", text, at, e)
	}
	if place, e := types.Check(x); e != api.OK {
		t.Fatalf("%q: %d, %v", text, place, e)
	}
	return x
}

func num(n int) Value { return Value{1, n} }

func is(n int) Value { return Value{2, n} }

func arr(n int) Value { return Value{3, n} }

func fun(n int) Value { return Value{4, n} }

var signs = strings.Fields("+ - * / % == != < <= > >= && || !")

// noSigns are texts that are no operators, however near they come to one.
var noSigns = []string{"", " ", "&", "|", "=", "===", "=!", "!!", "<<", ">>", "<>", "=<", "=>", "&&&", "|||", "^", "~", "**", "//", "%%", "++", "--", "&^", " +", "+ ", "+\x00", "\x00", "−", "é", "and", "or", "not", "div", "mod", "true", "len", "+-", "+ -", strings.Repeat("+", 1<<12)}

// numbers are those at which an Int wraps around, and small ones; the lesser ones first.
var numbers = []int{math.MinInt, math.MinInt + 1, math.MinInt/2 - 1, math.MinInt / 2, -1 << 32, -1 << 31, -7, -2, -1, 0, 1, 2, 3, 7, 1 << 31, 3037000499, 3037000500, 1 << 32, math.MaxInt / 2, math.MaxInt/2 + 1, math.MaxInt - 1, math.MaxInt}

// kinds are those of values, and numbers that are none.
var kinds = []int{math.MinInt, -1, 0, 1, 2, 3, 4, 5, 6, 20, 257, math.MaxInt}

// values are one of each kind and number.
func values() []Value {
	var out []Value
	for _, kind := range kinds {
		for _, n := range numbers {
			out = append(out, Value{kind, n})
		}
	}
	return out
}

// wrapped is the Int that a whole number of any size wraps around to: the number of its lowest 64 bits.
func wrapped(n *big.Int) int {
	size := new(big.Int).Lsh(big.NewInt(1), 64)
	low := new(big.Int).Mod(n, size)
	if low.Bit(63) == 1 {
		low.Sub(low, size)
	}
	return int(low.Int64())
}

// orders tell at which outcomes of a comparison (less, equal, greater) a sign is true.
var orders = map[string]string{"==": "010", "!=": "101", "<": "100", "<=": "110", ">": "001", ">=": "011"}

// truths are what signs make of two Bools: of 00, 01, 10, 11.
var truths = map[string]string{"&&": "0001", "||": "0111", "==": "1001", "!=": "0110"}

func bit(text string, place int) Value { return is(int(text[place] - '0')) }

// modelBinary calculates with whole numbers of any size, and looks up all else.
func modelBinary(sign string, a, b Value) (Value, int, bool) {
	zero := Value{}
	switch {
	case a.Kind == api.Bool && b.Kind == api.Bool:
		row, ok := truths[sign]
		if !ok {
			return zero, 0, false
		}
		place := 0
		if a.N != 0 {
			place += 2
		}
		if b.N != 0 {
			place++
		}
		return bit(row, place), 0, true
	case a.Kind != api.Int || b.Kind != api.Int:
		return zero, 0, false
	}
	x, y, out := big.NewInt(int64(a.N)), big.NewInt(int64(b.N)), new(big.Int)
	if row, ok := orders[sign]; ok {
		return bit(row, x.Cmp(y)+1), 0, true
	}
	switch sign {
	case "+":
		out.Add(x, y)
	case "-":
		out.Sub(x, y)
	case "*":
		out.Mul(x, y)
	case "/", "%":
		if y.Sign() == 0 {
			return zero, 1, true
		}
		quotient, rest := out.QuoRem(x, y, new(big.Int))
		if sign == "%" {
			return num(wrapped(rest)), 0, true
		}
		return num(wrapped(quotient)), 0, true
	default:
		return zero, 0, false
	}
	return num(wrapped(out)), 0, true
}

func modelUnary(sign string, a Value) (Value, bool) {
	switch {
	case sign == "-" && a.Kind == api.Int:
		return num(wrapped(new(big.Int).Neg(big.NewInt(int64(a.N))))), true
	case sign == "!" && a.Kind == api.Bool && a.N == 0:
		return is(1), true
	case sign == "!" && a.Kind == api.Bool:
		return is(0), true
	}
	return Value{}, false
}

// modelHeap has lengths of arrays, and the cells that were set.
type modelHeap struct {
	lengths []int
	set     map[[2]int]int
}

func newModelHeap() *modelHeap { return &modelHeap{set: map[[2]int]int{}} }

func (m *modelHeap) copy() *modelHeap {
	c := newModelHeap()
	c.lengths = append(c.lengths, m.lengths...)
	for cell, n := range m.set {
		c.set[cell] = n
	}
	return c
}

func (m *modelHeap) total() int {
	sum := 0
	for _, length := range m.lengths {
		sum += length + 1
	}
	return sum
}

func (m *modelHeap) make(n int) (Value, int, bool) {
	if n < 0 || n > 65536 {
		return Value{}, 4, true
	}
	if m.total()+n+1 > 262144 {
		return Value{}, 0, false
	}
	m.lengths = append(m.lengths, n)
	return arr(len(m.lengths)), 0, true
}

func (m *modelHeap) fault(a, i Value) int {
	if a.Kind != 3 || a.N <= 0 || a.N > len(m.lengths) {
		return 3
	}
	if i.Kind != 1 || i.N < 0 || i.N >= m.lengths[a.N-1] {
		return 2
	}
	return 0
}

func (m *modelHeap) get(a, i Value) (Value, int) {
	if e := m.fault(a, i); e != 0 {
		return Value{}, e
	}
	return num(m.set[[2]int{a.N, i.N}]), 0
}

func (m *modelHeap) put(a, i, v Value) int {
	e := m.fault(a, i)
	if e == 0 && v.Kind == 1 {
		m.set[[2]int{a.N, i.N}] = v.N
	}
	return e
}

func (m *modelHeap) length(a Value) int {
	if a.Kind != 3 || a.N <= 0 || a.N > len(m.lengths) {
		return 0
	}
	return m.lengths[a.N-1]
}

func (m *modelHeap) arrays() [][]int {
	var out [][]int
	for at, length := range m.lengths {
		list := make([]int, length)
		for i := range list {
			list[i] = m.set[[2]int{at + 1, i}]
		}
		out = append(out, list)
	}
	return out
}

// arity is how many operands an expression takes, or -1 if it is none.
func arity(kind int) int {
	if kind < api.Const || kind > api.Binary {
		return -1
	}
	return []int{0, 0, 0, 1, 0, 0, 1, 2}[kind-api.Const]
}

// modelEval goes through the nodes of an expression in their order, which is that of evaluation, with a stack of what they are worth.
func modelEval(x api.Tree, place int, names []Name, m *modelHeap) (Value, int) {
	if _, e := types.Check(x); e != api.OK || place < 0 || place >= len(x.Nodes) || arity(x.Nodes[place].Kind) < 0 {
		return Value{}, 0
	}
	first := place
	for missing := arity(x.Nodes[place].Kind); missing > 0; missing += arity(x.Nodes[first].Kind) - 1 {
		first--
	}
	var stack []Value
	for _, n := range x.Nodes[first : place+1] {
		rest := len(stack) - arity(n.Kind)
		v, e := modelNode(x, n, stack[rest:], names, m)
		if e != 0 {
			return Value{}, e
		}
		stack = append(stack[:rest], v)
	}
	if len(stack) != 1 {
		panic("the model goes wrong")
	}
	return stack[0], 0
}

func modelNode(x api.Tree, n api.Node, operands []Value, names []Name, m *modelHeap) (Value, int) {
	var variable Value
	if i := slices.IndexFunc(names, func(name Name) bool { return name.Text == n.Text }); i >= 0 {
		variable = names[i].V
	}
	switch n.Kind {
	case api.Const:
		return num(n.N), 0
	case api.Truth:
		return is(n.N), 0
	case api.Var:
		return variable, 0
	case api.Index:
		return m.get(variable, operands[0])
	case api.Length:
		return num(m.length(variable)), 0
	case api.Addr:
		return fun(1 + slices.IndexFunc(x.Nodes, func(p api.Node) bool { return p.Kind == api.Proc && p.Text == n.Text })), 0
	}
	v, e, ok := Value{}, 0, false
	if n.Kind == api.Unary {
		v, ok = modelUnary(n.Text, operands[0])
	} else {
		v, e, ok = modelBinary(n.Text, operands[0], operands[1])
	}
	switch {
	case ok:
		return v, e
	case strings.Contains("+-*/%", n.Text):
		return num(0), 0
	}
	return is(0), 0
}

// holdHeap holds all that a heap tells against the model.
func holdHeap(t *testing.T, h *Heap, m *modelHeap) {
	t.Helper()
	want := m.arrays()
	if got := h.Arrays(); !equalArrays(got, want) {
		t.Fatalf("%d arrays, not %d, or they hold something else", len(got), len(want))
	}
	if got := h.Cells(); got != m.total() {
		t.Fatalf("%d cells, not %d", got, m.total())
	}
}
