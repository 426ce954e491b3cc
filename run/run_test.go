package run

import (
	"math"
	"slices"
	"testing"

	"runnel/api"
	"runnel/flow"
	"runnel/types"
	"runnel/value"
)

// ends are programs that end in each way.
var ends = []struct {
	text          string
	status, steps int
}{
	{"proc main() { out lo 1; }", Halted, 3},
	{"proc main() { out lo 1; throw 9; }", Raised, 4},
	{"proc main() { var a arr; out lo 1; while true { a = new 65536; } }", Exhausted, 2 + 2*4},
	{"proc main() { out lo 1; call main(); }", Exhausted, 3 * api.MaxFrames},
}

// TestM1StepAtTheEnd: Step and Run of a machine that is not Running do nothing, however often.
func TestM1StepAtTheEnd(t *testing.T) {
	for _, end := range ends {
		m := begun(t, end.text)
		for i := range end.steps {
			if m.Status() != Running || m.Config().Steps != i || !m.Step() {
				t.Fatal(end.text, ended(m))
			}
		}
		want := m.Config()
		if want.Status != end.status || want.Steps != end.steps {
			t.Error(end.text, ended(m))
		}
		for _, n := range []int{1, 0, -1, math.MinInt, math.MaxInt, 100} {
			if m.Step() || m.Run(n) != 0 || !equalConfigs(m.Config(), want) || m.Status() != end.status {
				t.Errorf("%s: %+v, not %+v", end.text, m.Config(), want)
			}
		}
	}
}

// TestM1RunNumbers: as many steps as possible, but at most so many.
func TestM1RunNumbers(t *testing.T) {
	for _, end := range ends {
		for _, n := range []int{0, -1, -5, math.MinInt, math.MinInt + 1} {
			m := begun(t, end.text)
			m.Run(1)
			want := m.Config()
			if m.Run(n) != 0 || !equalConfigs(m.Config(), want) || want.Steps != 1 {
				t.Errorf("%s, %d: %+v, not %+v", end.text, n, m.Config(), want)
			}
		}
		for _, n := range []int{1, 2, 3, 4, 5, 9, 10, 11, 599, 600, 601, 5000, math.MaxInt - 1, math.MaxInt} {
			m := begun(t, end.text)
			want := min(n, end.steps)
			if done := m.Run(n); done != want || m.Config().Steps != want || (m.Status() == Running) != (want < end.steps) {
				t.Errorf("%s: %d, not %d: %s", end.text, done, want, ended(m))
			}
			if n > 5 {
				continue
			}
			if done := m.Run(math.MaxInt); done != end.steps-want || m.Config().Steps != end.steps {
				t.Errorf("%s: %d: %s", end.text, done, ended(m))
			}
		}
	}
}

// deep begins with a procedure that opens so many frames above its own before it does its work.
func deep(work string) string {
	return "proc deep(n int) { var x int; var h fun; var a arr; if n > 0 { call deep(n - 1); } else { " + work + " } } proc last(x int) int { out lo x; return x; } proc main() { var n int; n = in n; call deep(n); }"
}

// frames are the inputs with which deep has so many of them, that of main counted.
func frames(n int) Input { return Input{"n", []int{n - 2}} }

// TestM1Frames: with 199 frames there is room for a call, with 200 there is none.
func TestM1Frames(t *testing.T) {
	for _, c := range []struct {
		frames int
		work   string
		status int
		events []Event
	}{
		{198, "call last(7);", Halted, []Event{{"lo", 7}}},
		{199, "call last(7);", Halted, []Event{{"lo", 7}}},
		{200, "call last(7);", Exhausted, nil},
		{199, "h = &last; x = call h(7);", Halted, []Event{{"lo", 7}}},
		{200, "h = &last; x = call h(7);", Exhausted, nil},
		{200, "x = call last(2); out lo 3;", Exhausted, nil},
		{200, "try { call last(7); } catch x { out lo x; }", Exhausted, nil},
		{200, "try { call h(7); } catch x { out lo x; }", Halted, []Event{{"lo", 5}}},
		{200, "try { call last(1 / 0); } catch x { out lo x; }", Halted, []Event{{"lo", 1}}},
		{200, "try { call h(a[0]); } catch x { out lo x; }", Halted, []Event{{"lo", 3}}},
		{200, "out lo 4;", Halted, []Event{{"lo", 4}}},
		{200, "throw 4;", Raised, nil},
		{201, "out lo 4;", Exhausted, nil},
	} {
		m := begun(t, deep(c.work), frames(c.frames))
		most := 0
		for m.Step() {
			most = max(most, len(m.Config().Frames))
		}
		if m.Status() != c.status || !slices.Equal(m.Events(), c.events) || most > 200 {
			t.Errorf("%d, %s: %s, with %d frames", c.frames, c.work, ended(m), most)
		}
		if left := len(m.Config().Frames); (left == 200) != (c.status == Exhausted) || (left == 0) != (c.status != Exhausted) {
			t.Errorf("%d, %s: %d frames are left", c.frames, c.work, left)
		}
	}
}

// TestM1Exhausted: the step for which there is no room is counted, and changes nothing else.
func TestM1Exhausted(t *testing.T) {
	full := "var g arr; proc main() { var a arr; var x int; x = in lo; out hi x; a = new 65536; a = new 65536; a = new 65536; g = new 65000; try { g = new x; } catch x { out lo x; } out lo 1; }"
	for _, c := range []struct {
		text string
		in   Input
	}{
		{full, Input{"lo", []int{600}}},
		{full, Input{"lo", []int{532}}},
		{full, Input{"lo", []int{65536}}},
		{deep("x = 5; x = call last(x * 2); out lo x;"), frames(200)},
		{deep("h = &last; try { call h(1); } catch x { }"), frames(200)},
		{deep(""), frames(201)},
		{deep(""), frames(math.MaxInt)},
	} {
		m := begun(t, c.text, c.in)
		var before Config
		for m.Status() == Running {
			before = m.Config()
			if !m.Step() {
				t.Fatal(ended(m))
			}
		}
		want := before
		want.Status, want.Steps = Exhausted, before.Steps+1
		if got := m.Config(); !equalConfigs(got, want) {
			t.Errorf("%s: %+v, not %+v", c.text, got, want)
		}
	}
	m := begun(t, full, Input{"lo", []int{531}})
	m.Run(1000)
	if told := ended(m); told != "hi 531, lo 1, halted 0 in 10" {
		t.Error(told)
	}
}

// TestM2Run: Run(a) followed by Run(b) is Run(a + b), in what they answer and in what they leave.
func TestM2Run(t *testing.T) {
	g := newGrow(20)
	whole, rest := 0, 0
	for range 400 {
		x, in := parsed(t, g.program(5)), g.inputs()
		a, b := g.Intn(40), g.Intn(40)
		parts, _ := New(x, in)
		once, _ := New(x, in)
		steps, _ := New(x, in)
		n, k := parts.Run(a), parts.Run(b)
		if sum := once.Run(a + b); n+k != sum {
			t.Fatalf("%d and %d, not %d, of %d and %d for %v", n, k, sum, a, b, x)
		}
		for range a + b {
			steps.Step()
		}
		if !equalConfigs(parts.Config(), once.Config()) || !equalConfigs(steps.Config(), once.Config()) {
			t.Fatalf("%+v, %+v, %+v, of %d and %d for %v", parts.Config(), steps.Config(), once.Config(), a, b, x)
		}
		if n == a && k == b {
			whole++
		} else {
			rest++
		}
	}
	if whole < 50 || rest < 50 {
		t.Error(whole, rest)
	}
}

// TestM2RunAllParts: the same for each way to part a run that is not short.
func TestM2RunAllParts(t *testing.T) {
	const text = "proc f(x int) int { if x == 2 { throw x; } return x * x; } proc main() { var x int; var y int; var a arr; while x < 5 { x = x + 1; a = new x; try { y = call f(x); out lo y; } catch y { out hi y; } a[0] = y; } y = a[9]; }"
	once := begun(t, text)
	total := once.Run(1000)
	for a := -1; a <= total+1; a++ {
		for _, b := range []int{0, 1, 7, total - a, total, total + 9} {
			parts, whole := begun(t, text), begun(t, text)
			n := parts.Run(a) + parts.Run(b)
			if sum := whole.Run(max(a, 0) + max(b, 0)); n != sum || !equalConfigs(parts.Config(), whole.Config()) {
				t.Fatalf("%d, not %d, of %d and %d", n, sum, a, b)
			}
		}
	}
	if once.Status() != Raised || total < 40 {
		t.Error(ended(once))
	}
}

// TestM2Events: events are only appended.
func TestM2Events(t *testing.T) {
	g := newGrow(21)
	longest := 0
	for range 150 {
		m, _ := New(parsed(t, g.program(6)), g.inputs())
		var before []Event
		for range 200 {
			more := m.Step()
			now := m.Events()
			if len(now) < len(before) || len(now) > len(before)+1 || !slices.Equal(now[:len(before)], before) || !slices.Equal(m.Config().Events, now) {
				t.Fatal(before, now)
			}
			before = now
			if !more {
				break
			}
		}
		longest = max(longest, len(before))
	}
	if longest < 10 {
		t.Error(longest)
	}
}

// TestM2Types: values have the types of their variables, after each step; and so has the Answer.
func TestM2Types(t *testing.T) {
	g := newGrow(22)
	for range 150 {
		x := parsed(t, g.program(6))
		graph, _ := flow.Build(x)
		m, _ := New(x, g.inputs())
		plain := map[int]bool{0: true} // by N of a Fun
		for _, place := range graph.Procs {
			plain[1+place] = types.Plain(x, place)
		}
		for range 200 {
			c := m.Config()
			for _, f := range c.Frames {
				place := graph.Procs[f.Proc]
				if f.Answer.Kind != x.Nodes[place].N || graph.Nodes[f.Node].Proc != f.Proc {
					t.Fatalf("%+v in %v", f, x)
				}
				holdTypes(t, x, place, f.Names, c, plain)
			}
			holdTypes(t, x, x.Root, c.Globals, c, plain)
			if !m.Step() {
				break
			}
		}
	}
}

// holdTypes holds values against what is declared below a node, in its order.
func holdTypes(t *testing.T, x api.Tree, place int, names []value.Name, c Config, plain map[int]bool) {
	t.Helper()
	var declared []api.Node
	for _, kid := range x.Nodes[place].Kids {
		if n := x.Nodes[kid]; n.Kind != api.Proc && n.Kind != api.Block {
			declared = append(declared, n)
		}
	}
	for i, n := range names {
		fits := len(names) == len(declared) && n.Text == declared[i].Text && n.V.Kind == declared[i].N
		switch n.V.Kind {
		case api.Bool:
			fits = fits && (n.V.N == 0 || n.V.N == 1)
		case api.Arr:
			fits = fits && 0 <= n.V.N && n.V.N <= len(c.Arrays)
		case api.Fun:
			fits = fits && plain[n.V.N]
		}
		if !fits {
			t.Fatalf("%v is not %v, in %v", names, declared, x)
		}
	}
}

// TestM2Inputs: numbers of an input beyond those that were read have no effect.
func TestM2Inputs(t *testing.T) {
	g := newGrow(23)
	unread := 0
	for range 300 {
		x, in, steps := parsed(t, g.program(5)), g.inputs(), g.Intn(100)
		m, _ := New(x, in)
		m.Run(steps)
		want := m.Config()
		var other []Input
		for _, c := range want.Cursors {
			list := inputOf(in, c.Chan)
			if len(list) > c.N {
				unread++
			}
			list = append(list, make([]int, c.N)...)[:c.N]
			for range g.Intn(4) {
				list = append(list, g.Intn(100))
			}
			other = append(other, Input{c.Chan, list})
		}
		again, _ := New(x, other)
		again.Run(steps)
		if got := again.Config(); !equalConfigs(got, want) {
			t.Fatalf("%+v, not %+v, after %d steps of %v with %v", got, want, steps, x, other)
		}
	}
	if unread < 50 {
		t.Error(unread)
	}
}
