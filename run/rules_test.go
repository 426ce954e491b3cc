package run

import (
	"math"
	"math/rand"
	"slices"
	"sync"
	"sync/atomic"
	"testing"

	"runnel/api"
	"runnel/parse"
	"runnel/types"
	"runnel/value"
)

// sample does something of each kind, and reads and writes several channels.
const sample = "var g int; var k arr; proc f(x int, a arr) int { var y int; y = in lo; a[0] = x + y; if y > 8 { throw y; } return a[0]; } " +
	"proc p(x int) int { return x / 2; } " +
	"proc main() { var x int; var h fun; k = new 2; h = &p; while x < 4 { try { g = call f(x, k); out hi g; x = call h(g); } catch x { out lo x; } x = x + 2; } out lo k[0]; k = new 1; x = k[1]; }"

func sampleInputs() []Input {
	return []Input{{"lo", []int{1, 9, 0, 2}}, {"hi", []int{5}}, {"lo", []int{8}}}
}

// configs are those of a run, up to so many steps.
func configs(m *Machine, steps int) []Config {
	out := []Config{m.Config()}
	for range steps {
		if !m.Step() {
			break
		}
		out = append(out, m.Config())
	}
	return out
}

func equalRuns(a, b []Config) bool { return slices.EqualFunc(a, b, equalConfigs) }

// TestSampleIsOne: the sample does what the tests below need it for.
func TestSampleIsOne(t *testing.T) {
	x := parsed(t, sample)
	list := configs(begun(t, sample, sampleInputs()...), 1000)
	if !equalRuns(list, traced(x, sampleInputs(), 1000)) {
		t.Error("not as the model has it")
	}
	if end := list[len(list)-1]; end.Status != Raised || end.Exception != value.Range || len(end.Events) < 3 || len(end.Arrays) != 2 || end.Cursors[1].N < 2 {
		t.Errorf("%+v", end)
	}
}

// TestSameAnswers covers P4 of the document: the same calls answer the same, whatever other machines do in between and beside them.
func TestSameAnswers(t *testing.T) {
	g := newGrow(31)
	type asked struct {
		x    api.Tree
		in   []Input
		want []Config
	}
	list := []asked{{x: parsed(t, sample), in: sampleInputs()}}
	for range 30 {
		list = append(list, asked{x: parsed(t, g.program(4)), in: g.inputs()})
	}
	again := func(a asked) []Config {
		m, _ := New(a.x, a.in)
		return configs(m, 60)
	}
	for i, a := range list {
		list[i].want = again(a)
		if !equalRuns(again(list[i]), list[i].want) {
			t.Error("another run", i)
		}
	}
	for i, a := range slices.Backward(list) {
		a.x = copied(a.x)
		if !equalRuns(again(a), a.want) {
			t.Error("another run behind others", i)
		}
	}
	var wait sync.WaitGroup
	beside := make([][]Config, len(list))
	for i, a := range list {
		wait.Go(func() { beside[i] = again(a) })
	}
	wait.Wait()
	for i, a := range list {
		if !equalRuns(beside[i], a.want) {
			t.Error("another run beside others", i)
		}
	}
}

// TestMachinesApart covers P4 of the document: machines of one tree and one list of inputs don't touch one another, however their steps take turns; and asking changes nothing.
func TestMachinesApart(t *testing.T) {
	x, in := parsed(t, sample), sampleInputs()
	m, _ := New(x, in)
	want := configs(m, 1000)
	turns := rand.New(rand.NewSource(32))
	var machines [3]*Machine
	var at [3]int
	for i := range machines {
		machines[i], _ = New(x, in)
	}
	for range 5 * len(want) {
		i := turns.Intn(3)
		if machines[i].Step() {
			at[i]++
		}
		for j, m := range machines {
			if !equalConfigs(m.Config(), want[at[j]]) || m.Status() != want[at[j]].Status || !slices.Equal(m.Events(), want[at[j]].Events) {
				t.Fatalf("%+v, not %+v", m.Config(), want[at[j]])
			}
		}
	}
	if at != [3]int{len(want) - 1, len(want) - 1, len(want) - 1} {
		t.Error(at)
	}
}

// spoil changes all that a caller may change of a configuration, up to the capacity of each list.
func spoil(c Config) {
	for i := range c.Frames {
		spoilNames(c.Frames[i].Names)
		c.Frames[i].Names = append(c.Frames[i].Names, value.Name{Text: "x", V: num(77)})
	}
	for _, f := range c.Frames[:cap(c.Frames)] {
		spoilNames(f.Names)
	}
	clear(c.Frames[:cap(c.Frames)])
	spoilNames(c.Globals)
	for _, cells := range c.Arrays {
		spoilNumbers(cells)
	}
	clear(c.Arrays[:cap(c.Arrays)])
	spoilEvents(c.Cursors)
	spoilEvents(c.Events)
}

func spoilNames(names []value.Name) {
	for i := range names[:cap(names)] {
		names[:cap(names)][i] = value.Name{Text: "spoilt", V: num(-77)}
	}
}

func spoilEvents(events []Event) {
	for i := range events[:cap(events)] {
		events[:cap(events)][i] = Event{"spoilt", 78}
	}
}

func spoilNumbers(list []int) {
	for i := range list[:cap(list)] {
		list[:cap(list)][i] = 79
	}
}

// TestAnswersAreNew covers P3 of the document: what a caller changes of a Config or of Events changes no machine, and no other answer.
func TestAnswersAreNew(t *testing.T) {
	want := configs(begun(t, sample, sampleInputs()...), 1000)
	m := begun(t, sample, sampleInputs()...)
	for _, w := range want {
		c, kept := m.Config(), m.Config()
		events, keptEvents := m.Events(), m.Events()
		spoil(c)
		spoilEvents(events)
		if !equalConfigs(kept, w) || !slices.Equal(keptEvents, w.Events) || !equalConfigs(m.Config(), w) || !slices.Equal(m.Events(), w.Events) {
			t.Fatalf("%+v, not %+v", m.Config(), w)
		}
		m.Step()
	}
	// The lists of one answer share nothing either: each one is spoilt alone.
	m = begun(t, deep("x = call last(1);"), frames(5))
	m.Run(12)
	fresh := m.Config()
	if len(fresh.Frames) < 4 {
		t.Fatal(fresh)
	}
	for i := range fresh.Frames {
		c := m.Config()
		spoilNames(c.Frames[i].Names)
		for j, f := range c.Frames {
			if i != j && !equalFrames(f, fresh.Frames[j]) {
				t.Error(i, j, f)
			}
		}
	}
}

// TestConfigsStay covers P3 of the document: what a machine does later changes no Config and no Events that were answered.
func TestConfigsStay(t *testing.T) {
	m := begun(t, sample, sampleInputs()...)
	var answers, copies []Config
	var events [][]Event
	for m.Status() == Running {
		c := m.Config()
		answers, copies, events = append(answers, c), append(copies, copiedConfig(c)), append(events, m.Events())
		m.Step()
	}
	for i, c := range answers {
		if !equalConfigs(c, copies[i]) || !slices.Equal(events[i], copies[i].Events) {
			t.Errorf("%+v, not %+v", c, copies[i])
		}
	}
}

// TestInputsAreNotKept covers P3 of the document: a list of inputs that the caller changes afterwards changes no machine.
func TestInputsAreNotKept(t *testing.T) {
	want := configs(begun(t, sample, sampleInputs()...), 1000)
	for steps := range 20 {
		in := sampleInputs()
		m := begun(t, sample, in...)
		m.Run(steps)
		for i := range in {
			spoilNumbers(in[i].L)
			in[i] = Input{"lo", []int{80}}
		}
		for range in {
			in = append(in, Input{"lo", []int{81}})
		}
		if got := configs(m, 1000); !equalRuns(got, want[steps:]) {
			t.Fatalf("%+v", got)
		}
	}
}

// TestArgumentsStay covers P3 of the document: nothing of a tree or of inputs is changed, and nothing beyond the end of a list is read or written.
func TestArgumentsStay(t *testing.T) {
	x := parsed(t, sample)
	want := configs(begun(t, sample, sampleInputs()...), 1000)
	nodes := append(copied(x).Nodes, api.Node{Kind: api.Const, N: 7}, api.Node{Kind: api.Program, Kids: []int{len(x.Nodes)}})
	for i := range x.Nodes {
		kids := append(nodes[i].Kids, math.MinInt, math.MaxInt)
		nodes[i].Kids = kids[:len(kids)-2]
	}
	before := copied(api.Tree{Nodes: nodes})
	// Beyond the end of the numbers of lo there are more of them.
	numbers := []int{1, 9, 0, 2, 55, 56}
	in := []Input{{"hi", []int{5}}, {"lo", numbers[:4]}, {"lo", []int{8}}, {"other", []int{3}}}
	m, e := New(api.Tree{Nodes: nodes[:len(x.Nodes)], Root: x.Root}, in[:3])
	if e != api.OK {
		t.Fatal(e)
	}
	if got := configs(m, 1000); !equalRuns(got, want) {
		t.Errorf("%+v, not %+v", got, want)
	}
	if !equalTrees(api.Tree{Nodes: nodes}, before) {
		t.Error("a tree is changed")
	}
	for i := range x.Nodes {
		kids := nodes[i].Kids
		if rest := kids[len(kids) : len(kids)+2]; rest[0] != math.MinInt || rest[1] != math.MaxInt {
			t.Fatal("a list is changed beyond its end")
		}
	}
	if !slices.Equal(numbers, []int{1, 9, 0, 2, 55, 56}) || !slices.Equal(in[0].L, []int{5}) || !slices.Equal(in[2].L, []int{8}) || in[3].Chan != "other" || in[1].Chan != "lo" {
		t.Error("inputs are changed", in)
	}
	// A run that would see what is beyond the numbers of lo, and one that would see what is beyond the inputs.
	m = begun(t, "proc main() { var x int; x = in lo; x = in lo; out lo x; x = in lo; out lo x; }", Input{"lo", numbers[:1]})
	m.Run(100)
	n := begun(t, "proc main() { var x int; x = in other; out lo x; }", in[:3]...)
	n.Run(100)
	if ended(m) != "lo 0, lo 0, halted 0 in 7" || ended(n) != "lo 0, halted 0 in 4" {
		t.Error(ended(m), ended(n))
	}
}

// TestOffsetsDoNotMatter: where a node begins in the text says nothing about a run; nor does P5 of the document let an empty list differ from none.
func TestOffsetsDoNotMatter(t *testing.T) {
	y := parsed(t, sample)
	for i := range y.Nodes {
		y.Nodes[i].At = []int{-1, math.MinInt, math.MaxInt, 20001, -i}[i%5]
		if len(y.Nodes[i].Kids) == 0 {
			y.Nodes[i].Kids = [][]int{nil, {}, make([]int, 0, 9)}[i%3]
		}
	}
	m, _ := New(y, append(sampleInputs(), Input{"other", []int{}}))
	if !equalRuns(configs(m, 1000), configs(begun(t, sample, sampleInputs()...), 1000)) {
		t.Error(y)
	}
}

// TestZeroMachine covers P1 of the document for a machine that New never answers: it has nothing to do.
func TestZeroMachine(t *testing.T) {
	var m Machine
	for _, n := range []int{1, 0, -1, math.MaxInt} {
		if m.Step() || m.Run(n) != 0 || m.Status() != 0 || len(m.Events()) != 0 || !equalConfigs(m.Config(), Config{}) {
			t.Errorf("%+v", m.Config())
		}
	}
}

// TestTotality covers P1 of the document: no tree makes New or a machine panic.
func TestTotality(t *testing.T) {
	g := newGrow(33)
	number := func() int {
		return []int{math.MinInt, -1, 0, 1, 2, 3, g.Intn(30), g.Intn(30), 4000, 1 << 31, math.MaxInt}[g.Intn(11)]
	}
	texts := []string{"", "a", "x", "main", "-", "/", "%", "&&", "!", "\x00", "é", "var"}
	for range 20000 {
		x := api.Tree{Nodes: make([]api.Node, g.Intn(6)), Root: number()}
		if g.Intn(4) > 0 {
			x.Root = len(x.Nodes) - 1
		}
		for i := range x.Nodes {
			x.Nodes[i] = api.Node{Kind: number(), N: number(), At: number(), Text: texts[g.Intn(len(texts))]}
			for range g.Intn(3) {
				x.Nodes[i].Kids = append(x.Nodes[i].Kids, number())
			}
		}
		m, e := New(x, g.inputs())
		if _, fault := types.Check(x); (fault == api.OK) != (e == api.OK) || (m == nil) != (e == api.ErrArg) {
			t.Fatal(m, e, x)
		}
	}
}

// TestTotalityOneFault covers P1 of the document: parts of random programs, put together anew, either have no machine or one that runs as the model has it.
func TestTotalityOneFault(t *testing.T) {
	g := newGrow(34)
	refused, accepted := 0, 0
	for range 3000 {
		x := copied(parsed(t, g.program(2)))
		for range 1 + g.Intn(2) {
			at, from := g.Intn(len(x.Nodes)), g.Intn(len(x.Nodes))
			switch g.Intn(4) {
			case 0:
				x.Nodes[at].Text = x.Nodes[from].Text
			case 1:
				x.Nodes[at].N = x.Nodes[from].N
			case 2:
				x.Nodes[at].Kind = x.Nodes[from].Kind
			case 3:
				x.Nodes[at].Kids = slices.Clone(x.Nodes[from].Kids)
			}
		}
		in := g.inputs()
		m, e := New(x, in)
		if e != api.OK {
			refused++
			continue
		}
		accepted++
		if got, want := configs(m, 30), traced(x, in, 30); !equalRuns(got, want) {
			t.Fatalf("%+v, not %+v", got, want)
		}
	}
	if refused < 300 || accepted < 300 {
		t.Error(refused, accepted)
	}
}

// TestDeepProgram: nesting up to the depth that a tree may have.
func TestDeepProgram(t *testing.T) {
	text := "x = x + 1; out lo x;"
	for range 17 {
		text = "if x == 0 { " + text + " }"
	}
	m := begun(t, "proc main() { var x int; "+text+" }")
	m.Run(1000)
	if told := ended(m); told != "lo 1, halted 0 in 21" {
		t.Error(told)
	}
	sum := "1"
	for range 35 {
		sum = "-" + sum
	}
	x, _, e := parse.Program("proc main() { out lo " + sum + "; }")
	if e != api.OK {
		t.Fatal(e)
	}
	m, _ = New(x, nil)
	m.Run(1000)
	if told := ended(m); told != "lo -1, halted 0 in 3" {
		t.Error(told)
	}
}

// TestWaysAtomic: steps are counted with an atomic number.
func TestWaysAtomic(t *testing.T) {
	m := begun(t, sample, sampleInputs()...)
	var counted *atomic.Int64 = &m.steps
	for i := range 20 {
		if counted.Load() != int64(i) || m.Config().Steps != i {
			t.Error(i, counted.Load())
		}
		m.Step()
	}
}
