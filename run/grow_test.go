package run

import (
	"math/rand"
	"slices"
	"strconv"
	"strings"
	"testing"

	"runnel/api"
	"runnel/flow"
)

// grow makes the texts of random programs without an error, and inputs for them.
type grow struct {
	*rand.Rand
	procs   []signature
	globals map[string]int // types by names
	scope   map[string]int // the same at a statement
	known   [5][]string    // names by types, there
	within  string         // the name of its procedure
	answer  int
}

// signature is a procedure as its callers know it.
type signature struct {
	name   string
	params []int
	answer int
}

func newGrow(seed int64) *grow { return &grow{Rand: rand.New(rand.NewSource(seed))} }

func (g *grow) pick(from ...string) string { return from[g.Intn(len(from))] }

var typeNames = []string{"", "int", "bool", "arr", "fun"}

// names are those of variables; the last ones are also the names of procedures, which a global can't have.
var names = strings.Fields("a b c d e h i j k l m n o p q f0 f1 f2")

const globalNames = 15

// program has up to four procedures and main, wherever it stands among them.
func (g *grow) program(size int) string {
	g.procs = []signature{{"f0", []int{api.Int}, api.Int}}
	for i := range g.Intn(4) {
		s := signature{name: "f" + strconv.Itoa(i+1), answer: g.Intn(5)}
		for range g.Intn(4) {
			s.params = append(s.params, 1+g.Intn(4))
		}
		g.procs = append(g.procs, s)
	}
	all := append([]signature{{name: "main"}}, g.procs...)
	g.Shuffle(len(all), func(i, j int) { all[i], all[j] = all[j], all[i] })
	g.globals = map[string]int{}
	text := ""
	for range g.Intn(5) {
		if name := names[g.Intn(globalNames)]; g.globals[name] == 0 {
			g.globals[name] = 1 + g.Intn(4)
			text += "var " + name + " " + typeNames[g.globals[name]] + "; "
		}
	}
	for _, s := range all {
		text += g.procedure(s, size)
	}
	return text
}

// procedure has a variable of each type at least.
func (g *grow) procedure(s signature, size int) string {
	own := map[string]int{}
	fresh := func() string {
		for {
			if name := names[g.Intn(len(names))]; own[name] == 0 {
				return name
			}
		}
	}
	var params []string
	for _, kind := range s.params {
		name := fresh()
		own[name] = kind
		params = append(params, name+" "+typeNames[kind])
	}
	body, has := "", [5]bool{}
	for _, kind := range own {
		has[kind] = true
	}
	for kind := api.Int; kind <= api.Fun; kind++ {
		if !has[kind] || g.Intn(4) == 0 {
			name := fresh()
			own[name] = kind
			body += "var " + name + " " + typeNames[kind] + "; "
		}
	}
	g.scope, g.within, g.answer = map[string]int{}, s.name, s.answer
	if s.name == "main" {
		g.within = ""
	}
	for _, list := range []map[string]int{g.globals, own} {
		for name, kind := range list {
			g.scope[name] = kind
		}
	}
	g.known = [5][]string{}
	for _, name := range names {
		g.known[g.scope[name]] = append(g.known[g.scope[name]], name)
	}
	answer := ""
	if s.answer != 0 {
		answer = " " + typeNames[s.answer]
	}
	return "proc " + s.name + "(" + strings.Join(params, ", ") + ")" + answer + " { " + body + g.beginning(own, params) + g.statement(size, 2) + g.statement(size, 2) + g.statements(size, 2) + "} "
}

// beginning gives most of the arrays and procedures that there are a value, since little else can be done without.
func (g *grow) beginning(own map[string]int, params []string) string {
	text := ""
	for _, name := range names {
		kind := g.scope[name]
		isParam := slices.Contains(params, name+" "+typeNames[kind])
		switch {
		case g.Intn(6) == 0 || isParam || own[name] == 0 && g.Intn(3) > 0:
		case kind == api.Arr:
			text += name + " = new 3; "
		case kind == api.Fun:
			text += name + " = &f0; "
		}
	}
	return text
}

// variable is the name of one of a type.
func (g *grow) variable(kind int) string { return g.pick(g.known[kind]...) }

func (g *grow) statements(size, room int) string {
	text := ""
	for range g.Intn(size + 1) {
		text += g.statement(size, room)
	}
	return text
}

func (g *grow) statement(size, room int) string {
	block := func() string { return "{ " + g.statements(size-1, room-1) + "} " }
	kinds := 14
	if room > 0 {
		kinds = 20
	}
	switch g.Intn(kinds) {
	case 0, 1:
		kind := 1 + g.Intn(4)
		return g.variable(kind) + " = " + g.expression(kind, 2) + "; "
	case 2:
		return g.variable(api.Arr) + "[" + g.index() + "] = " + g.expression(api.Int, 2) + "; "
	case 3, 4:
		return g.variable(api.Int) + " = in " + g.pick("lo", "lo", "hi", "mid") + "; "
	case 5, 6:
		return "out " + g.pick("lo", "hi", "top") + " " + g.expression(api.Int, 2) + "; "
	case 7, 8:
		return g.variable(api.Arr) + " = new " + g.pick("1", "2", "3", "3", "0", "-1", "65537", g.expression(api.Int, 1)+" % 5") + "; "
	case 9, 10, 11:
		return g.call()
	case 12:
		if g.answer == 0 {
			return "return; "
		}
		return "return " + g.expression(g.answer, 2) + "; "
	case 13:
		return g.pick("throw "+g.expression(api.Int, 1)+"; ", g.variable(api.Fun)+" = &f0; ", g.variable(api.Int)+" = "+g.expression(api.Int, 2)+"; ")
	case 14:
		return "if " + g.expression(api.Bool, 2) + " " + block() + g.pick("", "else "+block())
	case 15:
		return "while " + g.expression(api.Bool, 2) + " " + block()
	case 16:
		v := g.variable(api.Int)
		return "while " + v + " < 3 { " + g.statements(size-1, room-1) + v + " = " + v + " + 1; } "
	}
	return "try " + block() + "catch " + g.variable(api.Int) + " " + block()
}

// call calls a procedure, or now and then a variable; what takes the answer may be left out.
func (g *grow) call() string {
	s := g.procs[g.Intn(len(g.procs))]
	if s.name <= g.within && g.Intn(4) > 0 { // else almost all calls go deeper and deeper
		return "out lo 5; "
	}
	if kind := g.scope[s.name]; kind == api.Fun || kind != 0 || g.Intn(4) == 0 {
		s = signature{name: g.variable(api.Fun), params: []int{api.Int}, answer: api.Int}
	}
	var args []string
	for _, kind := range s.params {
		args = append(args, g.expression(kind, 1))
	}
	takes := ""
	if s.answer != 0 && g.Intn(4) > 0 {
		takes = g.variable(s.answer) + " = "
	}
	return takes + "call " + s.name + "(" + strings.Join(args, ", ") + "); "
}

func (g *grow) index() string {
	if g.Intn(5) == 0 {
		return g.expression(api.Int, 1)
	}
	return g.pick("0", "0", "1", "2")
}

// expression is one of a type, which seldom raises.
func (g *grow) expression(kind, room int) string {
	switch kind {
	case api.Arr:
		return g.variable(api.Arr)
	case api.Fun:
		plain := "&f0"
		for _, s := range g.procs {
			if len(s.params) == 1 && s.params[0] == api.Int && s.answer == api.Int {
				plain = g.pick(plain, "&"+s.name)
			}
		}
		return g.pick(plain, g.variable(api.Fun))
	case api.Bool:
		return g.truth(room)
	}
	if room == 0 || g.Intn(3) == 0 {
		return g.pick("0", "1", "2", "3", "9223372036854775807", g.variable(api.Int), g.variable(api.Int), g.variable(api.Int), "len "+g.variable(api.Arr))
	}
	below := func() string { return g.expression(api.Int, room-1) }
	switch g.Intn(5) {
	case 0:
		return "-" + below()
	case 1, 2:
		return "(" + below() + g.pick("+", "-", "*", "/", "%", "/") + below() + ")"
	case 3:
		return g.variable(api.Arr) + "[" + g.index() + "]"
	}
	return below()
}

func (g *grow) truth(room int) string {
	if room == 0 {
		return g.pick("true", "false", g.variable(api.Bool), g.variable(api.Bool))
	}
	below := func() string { return g.truth(room - 1) }
	switch g.Intn(4) {
	case 0:
		return "!" + below()
	case 1:
		return "(" + below() + g.pick("&&", "||", "==", "!=") + below() + ")"
	case 2:
		return "(" + g.expression(api.Int, room-1) + g.pick("==", "!=", "<", "<=", ">", ">=") + g.expression(api.Int, room) + ")"
	}
	return below()
}

// inputs are some for the channels of the programs, and now and then for another, or twice for one.
func (g *grow) inputs() []Input {
	var out []Input
	for range g.Intn(5) {
		i := Input{Chan: g.pick("lo", "lo", "hi", "mid", "top", "", "nobody")}
		for range g.Intn(6) {
			i.L = append(i.L, g.Intn(9)-3)
		}
		out = append(out, i)
	}
	return out
}

// sight tells what a step did: the kind of its node, and where it went from there.
func sight(x api.Tree, g flow.Graph, before, after Config) string {
	f := before.Frames[len(before.Frames)-1]
	n := g.Nodes[f.Node]
	kind := []string{flow.Entry: "Entry", flow.Exit: "Exit", flow.Fail: "Fail", flow.Step: ""}[n.Kind]
	if n.Kind == flow.Step {
		kind = strings.Fields("Assign Store In Out If While Call Return Throw Try New")[x.Nodes[n.At].Kind-api.Assign]
	}
	switch {
	case after.Status != Running:
		return kind + " ends"
	case len(after.Frames) > len(before.Frames):
		return kind + " opens"
	case len(after.Frames) < len(before.Frames):
		return kind + " shuts"
	}
	to := after.Frames[len(after.Frames)-1].Node
	if to == n.Raise {
		return kind + " raises"
	}
	return kind + " " + strconv.Itoa(slices.Index(n.Next, to))
}

// TestM1Random: each configuration of random programs against the model.
func TestM1Random(t *testing.T) {
	g := newGrow(10)
	seen := map[string]int{}
	for range 1200 {
		x, in := parsed(t, g.program(6)), g.inputs()
		graph, _ := flow.Build(x)
		trace := traced(x, in, 300)
		m, e := New(x, in)
		if e != api.OK {
			t.Fatal(e)
		}
		for i, want := range trace {
			if got := m.Config(); !equalConfigs(got, want) || m.Status() != want.Status || !slices.Equal(m.Events(), want.Events) {
				t.Fatalf("%+v, not %+v, after %d steps of %v with %v", got, want, i, x, in)
			}
			if m.Step() != (want.Status == Running) {
				t.Fatalf("%+v of %v", want, x)
			}
			if i > 0 {
				seen[sight(x, graph, trace[i-1], want)]++
			}
		}
	}
	for _, sight := range sights() {
		if seen[sight] < 5 {
			t.Error("too seldom seen", sight, seen[sight])
		}
	}
	if len(seen) > len(sights())+1 { // a call for which there is no room may be among them
		t.Error(seen)
	}
}

// sights are all that a step of a program without large arrays and many frames may do.
func sights() []string {
	return strings.Split("Entry 0,Exit shuts,Exit ends,Fail shuts,Fail ends,Assign 0,Assign raises,Store 0,Store raises,In 0,Out 0,Out raises,If 0,If 1,If raises,While 0,While 1,While raises,Call opens,Call raises,Return 0,Return raises,Throw raises,Try 0,New 0,New raises", ",")
}
