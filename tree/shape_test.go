package tree

import (
	"math"
	"math/rand"
	"regexp"
	"slices"
	"strings"
	"testing"

	"runnel/api"
)

var binarySigns = strings.Fields("+ - * / % == != < <= > >= && ||")

// program is a program with one procedure that has what build answers as its only statement.
func program(build func() api.Tree) api.Tree {
	return over(api.Program, "", over(api.Proc, "main", over(api.Block, "", build())))
}

// letters are the kinds as the patterns of the model write them: e is an expression, s a statement.
const letters = "?PGQALBsssssssssssCReeeeeeee"

// letter is what the patterns write for a kind.
func letter(kind int) string {
	if kind < 1 || kind >= len(letters) {
		return "?"
	}
	return letters[kind : kind+1]
}

// modelShape is a row of the table: patterns of the Text and of the kinds of the children, and the bounds of N.
type modelShape struct {
	kinds     []int
	text      string
	low, high int
	kids      string
}

const (
	namePattern = `[A-Za-z_][A-Za-z0-9_]{0,19}`
	keepPattern = `^(?:var|proc|int|bool|arr|fun|in|out|if|else|while|call|return|throw|try|catch|new|len|true|false)$`
)

var modelTable = []modelShape{
	{[]int{1}, ``, 0, 0, `G*Q*`},
	{[]int{2, 4, 5}, namePattern, 1, 4, ``},
	{[]int{3}, namePattern, 0, 4, `A*L*B`},
	{[]int{6}, ``, 0, 0, `s*`},
	{[]int{7, 17}, namePattern, 0, 0, `e`},
	{[]int{8}, namePattern, 0, 0, `ee`},
	{[]int{9}, namePattern, 0, 0, `C`},
	{[]int{10}, ``, 0, 0, `Ce`},
	{[]int{11}, ``, 0, 0, `eBB`},
	{[]int{12}, ``, 0, 0, `eB`},
	{[]int{13}, `(?:` + namePattern + `)?`, 0, 0, `Re*`},
	{[]int{14}, ``, 0, 0, `e?`},
	{[]int{15}, ``, 0, 0, `e`},
	{[]int{16}, namePattern, 0, 0, `BB`},
	{[]int{18, 19, 22, 24, 25}, namePattern, 0, 0, ``},
	{[]int{20}, ``, 0, math.MaxInt, ``},
	{[]int{21}, ``, 0, 1, ``},
	{[]int{23}, namePattern, 0, 0, `e`},
	{[]int{26}, `[-!]`, 0, 0, `e`},
	{[]int{27}, `[-+*/%<>]|==|!=|<=|>=|&&|\|\|`, 0, 0, `ee`},
}

// compiled is the model's table by kind, with patterns that are ready.
type compiledShape struct {
	text, kids *regexp.Regexp
	low, high  int
}

var kept = regexp.MustCompile(keepPattern)

func compile() map[int]compiledShape {
	out := map[int]compiledShape{}
	for _, row := range modelTable {
		for _, kind := range row.kinds {
			out[kind] = compiledShape{regexp.MustCompile(`^(?:` + row.text + `)$`), regexp.MustCompile(`^(?:` + row.kids + `)$`), row.low, row.high}
		}
	}
	return out
}

var modelShapes = compile()

func modelShaped(x api.Tree, place int) bool {
	n := x.Nodes[place]
	s, ok := modelShapes[n.Kind]
	if !ok {
		return false
	}
	var kids strings.Builder
	for _, kid := range n.Kids {
		kids.WriteString(letter(x.Nodes[kid].Kind))
	}
	return s.text.MatchString(n.Text) && !kept.MatchString(n.Text) && s.low <= n.N && n.N <= s.high && s.kids.MatchString(kids.String())
}

func modelRight(x api.Tree) bool {
	if !modelSound(x) || modelDepth(x, x.Root) > 40 || x.Nodes[x.Root].Kind != 1 {
		return false
	}
	for place := range x.Nodes {
		if !modelShaped(x, place) {
			return false
		}
	}
	return true
}

func modelDepth(x api.Tree, place int) int {
	below := 0
	for _, kid := range x.Nodes[place].Kids {
		below = max(below, modelDepth(x, kid))
	}
	return below + 1
}

// sample is a tree of a kind that has its shape, as small as can be.
func sample(kind int) api.Tree {
	value := func() api.Tree { return leaf(api.Const, "", 7) }
	block := func() api.Tree { return over(api.Block, "") }
	switch kind {
	case api.Program, api.Block, api.Return:
		return over(kind, "")
	case api.Global, api.Param, api.Local:
		return leaf(kind, "x", 1)
	case api.Proc:
		return over(kind, "f", block())
	case api.Assign, api.New, api.Index:
		return over(kind, "x", value())
	case api.Store:
		return over(kind, "x", value(), value())
	case api.In:
		return over(kind, "x", leaf(api.Chan, "lo", 0))
	case api.Out:
		return over(kind, "", leaf(api.Chan, "lo", 0), value())
	case api.If:
		return over(kind, "", value(), block(), block())
	case api.While:
		return over(kind, "", value(), block())
	case api.Call:
		return over(kind, "", leaf(api.Ref, "f", 0))
	case api.Throw:
		return over(kind, "", value())
	case api.Try:
		return over(kind, "x", block(), block())
	case api.Const, api.Truth:
		return leaf(kind, "", 1)
	case api.Unary:
		return over(kind, "-", value())
	case api.Binary:
		return over(kind, "+", value(), value())
	}
	return leaf(kind, "x", 0)
}

// frame is a program around a tree, in which nothing but what is in that tree can be wrong; a kind that the table does not have stands as a statement.
func frame(x api.Tree) api.Tree {
	switch kind := x.Nodes[x.Root].Kind; letter(kind) {
	case "P":
		return x
	case "G", "Q":
		return over(api.Program, "", x)
	case "A", "L":
		return over(api.Program, "", over(api.Proc, "main", x, over(api.Block, "")))
	case "B":
		return program(func() api.Tree { return over(api.Try, "x", x, over(api.Block, "")) })
	case "C":
		return program(func() api.Tree { return over(api.In, "x", x) })
	case "R":
		return program(func() api.Tree { return over(api.Call, "", x) })
	case "e":
		return program(func() api.Tree { return over(api.Throw, "", x) })
	}
	return program(func() api.Tree { return x })
}

// subs are the trees of the children of the root.
func subs(x api.Tree) []api.Tree {
	var out []api.Tree
	for _, place := range x.Nodes[x.Root].Kids {
		out = append(out, Sub(x, place))
	}
	return out
}

func wantRight(t *testing.T, what string, x api.Tree, want bool) {
	t.Helper()
	if got := Right(x); got != want || modelRight(x) != want {
		t.Errorf("%s: %v (the model: %v), not %v: %v", what, got, modelRight(x), want, x)
	}
}

func TestA2RightSamples(t *testing.T) {
	for kind := 1; kind <= 27; kind++ {
		wantRight(t, "a sample", frame(sample(kind)), true)
	}
}

// TestA2RightRoot: only a Program may be the root, and it may be nowhere else.
func TestA2RightRoot(t *testing.T) {
	for kind := -1; kind <= 29; kind++ {
		wantRight(t, "the root", sample(kind), kind == api.Program)
		wantRight(t, "the root, without children", leaf(kind, "", 0), kind == api.Program)
		if kind != api.Program {
			x := sample(api.Program)
			x.Nodes[0].Kind = kind
			wantRight(t, "the root of another kind", x, false)
		}
	}
	inner := sample(api.Program)
	for kind := 1; kind <= 27; kind++ {
		wantRight(t, "a Program below", frame(Over(sample(kind).Nodes[sample(kind).Root], append(subs(sample(kind)), inner))), false)
	}
	wantRight(t, "a Program below", over(api.Program, "", inner), false)
}

// names are texts that are names, others those that are none.
var (
	names  = []string{"x", "_", "A9", "main", "vars", "Int", strings.Repeat("a", 20)}
	others = []string{"if", "var", "false", "len", "1", "1x", "x y", " x", "x ", "x-y", "é", "\xff", "\x00", "x\n", strings.Repeat("a", 21), strings.Repeat("a", 5000), "(", "=", "&", "|", ";", "+x", "- ", "!!", "===", "=>", "<>", "+-"}
)

// withText is a sample with another Text.
func withText(kind int, text string) api.Tree {
	x := sample(kind)
	x.Nodes[x.Root].Text = text
	return frame(x)
}

func TestA2RightText(t *testing.T) {
	named := []int{api.Global, api.Param, api.Local, api.Proc, api.Assign, api.New, api.Store, api.In, api.Call, api.Try, api.Chan, api.Ref, api.Var, api.Length, api.Addr, api.Index}
	for kind := 1; kind <= 27; kind++ {
		for _, s := range names {
			wantRight(t, "a name", withText(kind, s), slices.Contains(named, kind))
		}
		for _, s := range others {
			wantRight(t, "no name", withText(kind, s), false)
		}
		for _, s := range append([]string{"!"}, binarySigns...) {
			want := kind == api.Binary && s != "!" || kind == api.Unary && (s == "-" || s == "!")
			wantRight(t, "a sign", withText(kind, s), want)
		}
		empty := kind == api.Call || !slices.Contains(named, kind) && kind != api.Unary && kind != api.Binary
		wantRight(t, "empty", withText(kind, ""), empty)
	}
}

func TestA2RightN(t *testing.T) {
	bounds := map[int][2]int{api.Global: {1, 4}, api.Param: {1, 4}, api.Local: {1, 4}, api.Proc: {0, 4}, api.Const: {0, math.MaxInt}, api.Truth: {0, 1}}
	for kind := 1; kind <= 27; kind++ {
		for _, n := range append([]int{-5, -2, 0, 1, 2, 3, 4, 5, 6, 7, 100}, extremes...) {
			x := sample(kind)
			x.Nodes[x.Root].N = n
			wantRight(t, "an N", frame(x), bounds[kind][0] <= n && n <= bounds[kind][1])
		}
	}
}

// TestA2RightAt: where a node begins is no matter of its shape.
func TestA2RightAt(t *testing.T) {
	for kind := 1; kind <= 27; kind++ {
		for _, at := range extremes {
			x := frame(sample(kind))
			for i := range x.Nodes {
				x.Nodes[i].At = at
			}
			wantRight(t, "an At", x, true)
		}
	}
}

// TestA2RightKids: for each kind, all rows of up to two children, and those of three and four that matter.
func TestA2RightKids(t *testing.T) {
	var all []api.Tree
	for kind := 1; kind <= 27; kind++ {
		all = append(all, sample(kind))
	}
	// One of each sort, and the first and the last kinds of statements and expressions.
	var few []api.Tree
	for _, kind := range []int{1, 2, 3, 4, 5, 6, 7, 17, 18, 19, 20, 27} {
		few = append(few, sample(kind))
	}
	for kind := 1; kind <= 27; kind++ {
		root := sample(kind).Nodes[sample(kind).Root]
		var count int
		hold := func(kids ...api.Tree) {
			x := frame(Over(root, kids))
			want := modelRight(x)
			if want {
				count++
			}
			if Right(x) != want {
				t.Fatalf("kind %d: %v, not %v: %v", kind, !want, want, x)
			}
		}
		hold()
		for _, a := range all {
			hold(a)
			for _, b := range all {
				hold(a, b)
			}
		}
		for _, a := range few {
			for _, b := range few {
				for _, c := range few {
					hold(a, b, c)
				}
			}
		}
		for _, row := range []string{"GGQQ", "GQGQ", "AALL", "AALB", "ALLB", "LAAB", "ALBB", "ssss", "eBBB", "eeBB", "eeee", "Reee", "RRee", "CeeC", "Ceee", "BBBB", "QQGG", "AAAB", "LLLB", "BALB", "ALAB", "Rees", "sseB"} {
			var kids []api.Tree
			for _, c := range row {
				kids = append(kids, sample(strings.IndexRune(letters, c)))
			}
			hold(kids...)
		}
		if count == 0 {
			t.Error("no row of children is right:", kind)
		}
	}
}

// TestA2RightKidsPlainly: the rows of the table once more, each with what it must be, without the model.
func TestA2RightKidsPlainly(t *testing.T) {
	for kind, rows := range map[int]struct{ right, wrong string }{
		api.Program: {"- G Q GG QQ GQ GGQQ", "QG GQG A L B s e C R P GB GQB GA"},
		api.Global:  {"-", "e s B G"},
		api.Param:   {"-", "e A"},
		api.Local:   {"-", "e L"},
		api.Proc:    {"B AB LB ALB AALLB AAB LLB", "- A L AL LAB BA BB ABL ALBB GB sB Bs eB QB ALALB"},
		api.Block:   {"- s ss sss ssss", "e B G se es sB Bs L Ls C R sR"},
		api.Assign:  {"e", "- ee s B C R se es"},
		api.New:     {"e", "- ee s B C R"},
		api.Store:   {"ee", "- e eee es se eB Ce"},
		api.In:      {"C", "- CC e Ce eC R s"},
		api.Out:     {"Ce", "- C e eC CC ee Cee CCe Cs Re CB"},
		api.If:      {"eBB", "- e eB eBBB BB BeB BBe eeB eBe eeBB eBs esB sBB CBB"},
		api.While:   {"eB", "- e B Be eBB eeB ee es sB RB"},
		api.Call:    {"R Re Ree Reee", "- e eR RR ReR Rs RB C Ce ReB"},
		api.Return:  {"- e", "ee s B C R"},
		api.Throw:   {"e", "- ee s B C R"},
		api.Try:     {"BB", "- B BBB e eB Be ee eBB s sB"},
		api.Chan:    {"-", "e C"},
		api.Ref:     {"-", "e R"},
		api.Const:   {"-", "e s"},
		api.Truth:   {"-", "e s"},
		api.Var:     {"-", "e s"},
		api.Index:   {"e", "- ee s B C R"},
		api.Length:  {"-", "e s"},
		api.Addr:    {"-", "e R"},
		api.Unary:   {"e", "- ee s B C R"},
		api.Binary:  {"ee", "- e eee es se eB Be CC"},
	} {
		root := sample(kind).Nodes[sample(kind).Root]
		for want, list := range map[bool]string{true: rows.right, false: rows.wrong} {
			for _, row := range strings.Fields(list) {
				var kids []api.Tree
				for _, c := range strings.TrimPrefix(row, "-") {
					kids = append(kids, sample(strings.IndexRune(letters, c)))
				}
				wantRight(t, row, frame(Over(root, kids)), want)
			}
		}
	}
}

// TestA2RightStatementsAndExpressions: each kind as a statement and as an expression.
func TestA2RightStatementsAndExpressions(t *testing.T) {
	for kind := -1; kind <= 30; kind++ {
		x := sample(kind)
		wantRight(t, "a statement", program(func() api.Tree { return x }), 7 <= kind && kind <= 17)
		wantRight(t, "an expression", program(func() api.Tree { return over(api.Throw, "", x) }), 20 <= kind && kind <= 27)
	}
}

func TestA2RightKindsThatAreNone(t *testing.T) {
	for _, kind := range append([]int{0, 28, 29, 30, 99, -2, -7, -20, 256 + 1, 256 + 7, 1<<32 + 7, 1<<32 + 20}, extremes...) {
		for _, text := range []string{"", "x", "+", "-"} {
			x := leaf(kind, text, 0)
			wantRight(t, "the root", x, false)
			wantRight(t, "below the root", over(api.Program, "", x), false)
			wantRight(t, "a statement", program(func() api.Tree { return x }), false)
			wantRight(t, "an expression", program(func() api.Tree { return over(api.Throw, "", x) }), false)
			wantRight(t, "an argument", program(func() api.Tree { return over(api.Call, "", leaf(api.Ref, "f", 0), x) }), false)
			wantRight(t, "a Param", over(api.Program, "", over(api.Proc, "f", x, over(api.Block, ""))), false)
		}
	}
}

// TestA2RightDepth: 40 is right, 41 is not, wherever the depth comes from.
func TestA2RightDepth(t *testing.T) {
	for deep := 1; deep <= 45; deep++ {
		signs := leaf(api.Var, "x", 0)
		for range deep - 1 {
			signs = over(api.Unary, "-", signs)
		}
		x := program(func() api.Tree { return over(api.Throw, "", signs) })
		if Depth(x) != deep+4 {
			t.Error(deep, Depth(x))
		}
		wantRight(t, "signs", x, deep+4 <= 40)
		wide := program(func() api.Tree { return over(api.Store, "a", leaf(api.Const, "", 1), signs) })
		wantRight(t, "signs beside a number", wide, deep+4 <= 40)

		inner := over(api.Block, "")
		for range deep - 1 {
			inner = over(api.Block, "", over(api.While, "", leaf(api.Truth, "", 1), inner))
		}
		y := over(api.Program, "", over(api.Proc, "f", inner), sample(api.Proc))
		if want := max(2*deep+1, 3); Depth(y) != want {
			t.Error(deep, Depth(y))
		}
		wantRight(t, "loops", y, 2*deep+1 <= 40)
	}
	long := leaf(api.Var, "x", 0)
	for range 3000 {
		long = over(api.Unary, "!", long)
	}
	wantRight(t, "very deep", program(func() api.Tree { return over(api.Throw, "", long) }), false)
}

func TestA2RightSize(t *testing.T) {
	for count, want := range map[int]bool{0: true, 1: true, 3996: true, 3997: true, 3998: false, 5000: false} {
		block := over(api.Block, "", slices.Repeat([]api.Tree{over(api.Return, "")}, count)...)
		x := over(api.Program, "", over(api.Proc, "f", block))
		if len(x.Nodes) != count+3 {
			t.Error(len(x.Nodes))
		}
		wantRight(t, "many statements", x, want)
		globals := over(api.Program, "", slices.Repeat([]api.Tree{leaf(api.Global, "x", 1)}, count)...)
		wantRight(t, "many Globals", globals, count <= 3999)
	}
}

// TestA2RightWantsSound: right shapes do not help a tree that is not sound.
func TestA2RightWantsSound(t *testing.T) {
	base := frame(sample(api.If))
	for what, change := range map[string]func(x *api.Tree){
		"Root":           func(x *api.Tree) { x.Root-- },
		"Root 0":         func(x *api.Tree) { x.Root = 0 },
		"a node more":    func(x *api.Tree) { x.Nodes = append([]api.Node{{Kind: api.Return}}, x.Nodes...); x.Root++ },
		"Blocks turned":  func(x *api.Tree) { x.Nodes[3].Kids = []int{0, 2, 1} },
		"a Block twice":  func(x *api.Tree) { x.Nodes[3].Kids = []int{0, 2, 2} },
		"another's node": func(x *api.Tree) { x.Nodes[4].Kids = []int{3, 3} },
		"no Program":     func(x *api.Tree) { x.Nodes[x.Root].Kind = api.Block },
	} {
		x := copied(base)
		wantRight(t, what, x, true)
		change(&x)
		wantRight(t, what, x, false)
	}
	wantRight(t, "no node", api.Tree{}, false)
}

// grow makes random programs that have their shapes.
type grow struct{ *rand.Rand }

func (g grow) name() string { return names[g.Intn(len(names))] }

func (g grow) expr(room int) api.Tree {
	kind := api.Const + g.Intn(8)
	if room <= 1 {
		kind = []int{api.Const, api.Truth, api.Var, api.Length, api.Addr}[g.Intn(5)]
	}
	switch kind {
	case api.Const:
		return leaf(kind, "", g.Int())
	case api.Truth:
		return leaf(kind, "", g.Intn(2))
	case api.Index:
		return over(kind, g.name(), g.expr(room-1))
	case api.Unary:
		return over(kind, []string{"-", "!"}[g.Intn(2)], g.expr(room-1))
	case api.Binary:
		return over(kind, binarySigns[g.Intn(len(binarySigns))], g.expr(room-1), g.expr(room-1))
	}
	return leaf(kind, g.name(), 0)
}

func (g grow) block(room int) api.Tree {
	var list []api.Tree
	for range g.Intn(4) {
		if room > 2 {
			list = append(list, g.stmt(room-1))
		}
	}
	return over(api.Block, "", list...)
}

func (g grow) stmt(room int) api.Tree {
	kind := api.Assign + g.Intn(11)
	switch below := room - 1; kind {
	case api.Assign, api.New:
		return over(kind, g.name(), g.expr(below))
	case api.Store:
		return over(kind, g.name(), g.expr(below), g.expr(below))
	case api.In:
		return over(kind, g.name(), leaf(api.Chan, g.name(), 0))
	case api.Out:
		return over(kind, "", leaf(api.Chan, g.name(), 0), g.expr(below))
	case api.If:
		return over(kind, "", g.expr(below), g.block(below), g.block(below))
	case api.While:
		return over(kind, "", g.expr(below), g.block(below))
	case api.Call:
		kids := []api.Tree{leaf(api.Ref, g.name(), 0)}
		for range g.Intn(3) {
			kids = append(kids, g.expr(below))
		}
		return over(kind, []string{"", g.name()}[g.Intn(2)], kids...)
	case api.Throw:
		return over(kind, "", g.expr(below))
	case api.Try:
		return over(kind, g.name(), g.block(below), g.block(below))
	}
	if g.Intn(2) == 0 {
		return over(api.Return, "")
	}
	return over(api.Return, "", g.expr(room-1))
}

func (g grow) program() api.Tree {
	var list []api.Tree
	for range g.Intn(3) {
		list = append(list, leaf(api.Global, g.name(), 1+g.Intn(4)))
	}
	for range g.Intn(3) {
		var kids []api.Tree
		for range g.Intn(3) {
			kids = append(kids, leaf(api.Param, g.name(), 1+g.Intn(4)))
		}
		for range g.Intn(3) {
			kids = append(kids, leaf(api.Local, g.name(), 1+g.Intn(4)))
		}
		list = append(list, Over(api.Node{Kind: api.Proc, Text: g.name(), N: g.Intn(5)}, append(kids, g.block(6))))
	}
	return over(api.Program, "", list...)
}

// TestA2RightRandomPrograms: what has its shapes is right; with a thing or two changed, it is what the model says.
func TestA2RightRandomPrograms(t *testing.T) {
	g := grow{rand.New(rand.NewSource(5))}
	texts := slices.Concat(names, others[:8], binarySigns, []string{"", "!"})
	for range 1500 {
		x := g.program()
		if len(x.Nodes) > 4000 {
			continue
		}
		wantRight(t, "a program", x, true)
		for range 10 {
			y := copied(x)
			n := &y.Nodes[g.Intn(len(y.Nodes))]
			switch g.Intn(4) {
			case 0:
				n.Kind = g.Intn(30)
			case 1:
				n.Text = texts[g.Intn(len(texts))]
			case 2:
				n.N = g.Intn(9) - 2
			case 3:
				other := &y.Nodes[g.Intn(len(y.Nodes))]
				n.Kind, other.Kind = other.Kind, n.Kind
			}
			wantRight(t, "a change", y, modelRight(y))
		}
	}
}

// TestWaysRow: what the closures require of children, part by part.
func TestWaysRow(t *testing.T) {
	odd := func(kind int) bool { return kind%2 == 1 }
	even := func(kind int) bool { return kind%2 == 0 }
	for i, c := range []struct {
		kids  func(kinds []int) bool
		kinds []int
		want  bool
	}{
		{row(), nil, true},
		{row(), []int{1}, false},
		{row(one(odd)), []int{1}, true},
		{row(one(odd)), nil, false},
		{row(one(odd)), []int{2}, false},
		{row(one(odd)), []int{1, 1}, false},
		{row(maybe(odd)), nil, true},
		{row(maybe(odd)), []int{3}, true},
		{row(maybe(odd)), []int{3, 3}, false},
		{row(many(odd)), nil, true},
		{row(many(odd)), []int{1, 3, 5, 7}, true},
		{row(many(odd)), []int{1, 3, 4, 7}, false},
		{row(many(odd), one(even)), []int{1, 3, 4}, true},
		{row(many(odd), one(even)), []int{1, 3}, false},
		{row(one(is(4)), many(odd)), []int{4, 1, 1}, true},
		{row(one(is(4)), many(odd)), []int{6, 1, 1}, false},
	} {
		held := slices.Clone(c.kinds)
		// What a closure answered is not to be seen when it is asked again.
		if a, b := c.kids(c.kinds), c.kids(c.kinds); a != c.want || b != c.want || !slices.Equal(held, c.kinds) {
			t.Error(i, a, b)
		}
	}
}
