package flow

import (
	"slices"
	"strings"
	"testing"

	"runnel/api"
)

// TestF1F2Example is the example of the chapter.
func TestF1F2Example(t *testing.T) {
	x := parsed(t, "proc main() { var x int; x = in lo; if x < 1 { out lo x; } }")
	g := hold(t, x)
	// The Out is ahead of its If in the tree, and so among the nodes.
	want := Graph{
		Nodes: []Node{
			{Entry, 13, 0, []int{3}, -1}, {Exit, 13, 0, nil, -1}, {Fail, 13, 0, nil, -1},
			{Step, 2, 0, []int{5}, -1}, {Step, 8, 0, []int{1}, -1}, {Step, 11, 0, []int{4, 1}, -1},
		},
		Procs: []int{13},
	}
	if !equalGraphs(g, want) {
		t.Error(g)
	}
	for n, after := range map[int][]int{0: {3}, 3: {5}, 5: {1, 4}, 4: {1}, 1: nil, 2: nil} {
		if got := g.After(n); !slices.Equal(got, after) {
			t.Error(n, got)
		}
	}
	if g.Entry(0) != 0 || g.Exit(0) != 1 || g.Fail(0) != 2 || g.Of(2) != 3 || g.Of(8) != 4 || g.Of(11) != 5 || !slices.Equal(g.Reach(0), []int{0, 1, 3, 4, 5}) {
		t.Error(g)
	}
	wantLines(t, "proc main() { var x int; x = in lo; if x < 1 { out lo x; } }", 0, "entry -> x = in lo", "exit ->", "fail ->", "x = in lo -> if x < 1", "out lo x -> exit", "if x < 1 -> out lo x | exit")
}

// kindRow is a kind of statement: where it begins, and its nodes; @F is what follows it, @H its handler.
type kindRow struct {
	text, begin string
	lines       []string
}

func kindRows() []kindRow {
	return []kindRow{
		{"x = 1;", "x = 1", []string{"x = 1 -> @F"}},
		{"x = 1 / y;", "x = 1 / y", []string{"x = 1 / y -> @F ! @H"}},
		{"a[0] = 1;", "a[0] = 1", []string{"a[0] = 1 -> @F ! @H"}},
		{"x = in lo;", "x = in lo", []string{"x = in lo -> @F"}},
		{"out lo x;", "out lo x", []string{"out lo x -> @F"}},
		{"out lo a[x];", "out lo a[x]", []string{"out lo a[x] -> @F ! @H"}},
		{"if b { out lo 1; }", "if b", []string{"out lo 1 -> @F", "if b -> out lo 1 | @F"}},
		{"if b { } else { out lo 1; }", "if b", []string{"out lo 1 -> @F", "if b -> @F | out lo 1"}},
		{"if b { out lo 1; } else { out lo 2; }", "if b", []string{"out lo 1 -> @F", "out lo 2 -> @F", "if b -> out lo 1 | out lo 2"}},
		{"if a[0] < 1 { throw 1; } else { throw 2; }", "if a[0] < 1", []string{"throw 1 -> ! @H", "throw 2 -> ! @H", "if a[0] < 1 -> throw 1 | throw 2 ! @H"}},
		{"if b { }", "if b", []string{"if b -> @F | @F"}},
		{"while b { out lo 1; }", "while b", []string{"out lo 1 -> while b", "while b -> out lo 1 | @F"}},
		{"while a[0] < 1 { throw 1; }", "while a[0] < 1", []string{"throw 1 -> ! @H", "while a[0] < 1 -> throw 1 | @F ! @H"}},
		{"while b { }", "while b", []string{"while b -> while b | @F"}},
		{"call f(1);", "call f(1)", []string{"call f(1) -> @F ! @H"}},
		{"x = call u(1);", "x = call u(1)", []string{"x = call u(1) -> @F ! @H"}},
		{"return;", "return", []string{"return -> exit"}},
		{"throw x;", "throw x", []string{"throw x -> ! @H"}},
		{"try { out lo 1; } catch x { out lo 2; }", "out lo 1", []string{"out lo 1 -> @F", "out lo 2 -> @F", "try x -> out lo 2"}},
		{"try { throw 1; } catch x { throw 2; }", "throw 1", []string{"throw 1 -> ! try x", "throw 2 -> ! @H", "try x -> throw 2"}},
		{"try { } catch x { out lo 2; }", "@F", []string{"out lo 2 -> @F", "try x -> out lo 2"}},
		{"try { out lo 1; } catch x { }", "out lo 1", []string{"out lo 1 -> @F", "try x -> @F"}},
		{"try { } catch x { }", "@F", []string{"try x -> @F"}},
		{"a = new 1;", "a = new 1", []string{"a = new 1 -> @F ! @H"}},
	}
}

// standRow is where a statement stands, at the mark @: what follows it and its handler there, and the nodes around it; @B is where it begins, and a line @ stands for its own.
type standRow struct {
	text, follow, handler, begin string
	lines                        []string
}

func standRows() []standRow {
	return []standRow{
		{"@", "exit", "fail", "@B", []string{"@"}},
		{"@ out end 9;", "out end 9", "fail", "@B", []string{"@", "out end 9 -> exit"}},
		{"out end 8; @", "exit", "fail", "out end 8", []string{"out end 8 -> @B", "@"}},
		{"out end 8; @ out end 9;", "out end 9", "fail", "out end 8", []string{"out end 8 -> @B", "@", "out end 9 -> exit"}},
		{"@ while x > 9 { out end 9; }", "while x > 9", "fail", "@B", []string{"@", "out end 9 -> while x > 9", "while x > 9 -> out end 9 | exit"}},
		{"@ try { throw 9; } catch y { }", "throw 9", "fail", "@B", []string{"@", "throw 9 -> ! try y", "try y -> exit"}},
		{"@ try { } catch y { throw 9; }", "exit", "fail", "@B", []string{"@", "throw 9 -> ! fail", "try y -> throw 9"}},

		{"if x > 8 { @ } else { out end 8; }", "exit", "fail", "if x > 8", []string{"@", "out end 8 -> exit", "if x > 8 -> @B | out end 8"}},
		{"if x > 8 { out end 8; } else { @ }", "exit", "fail", "if x > 8", []string{"out end 8 -> exit", "@", "if x > 8 -> out end 8 | @B"}},
		{"if x > 8 { out end 7; @ } out end 9;", "out end 9", "fail", "if x > 8", []string{"out end 7 -> @B", "@", "if x > 8 -> out end 7 | out end 9", "out end 9 -> exit"}},
		{"if x > 8 { @ out end 8; } else { } out end 9;", "out end 8", "fail", "if x > 8", []string{"@", "out end 8 -> out end 9", "if x > 8 -> @B | out end 9", "out end 9 -> exit"}},
		{"if x > 8 { } else { out end 7; @ out end 8; } out end 9;", "out end 8", "fail", "if x > 8", []string{"out end 7 -> @B", "@", "out end 8 -> out end 9", "if x > 8 -> out end 9 | out end 7", "out end 9 -> exit"}},

		{"while x > 8 { @ }", "while x > 8", "fail", "while x > 8", []string{"@", "while x > 8 -> @B | exit"}},
		{"while x > 8 { @ out end 8; } out end 9;", "out end 8", "fail", "while x > 8", []string{"@", "out end 8 -> while x > 8", "while x > 8 -> @B | out end 9", "out end 9 -> exit"}},
		{"while x > 8 { out end 7; @ } out end 9;", "while x > 8", "fail", "while x > 8", []string{"out end 7 -> @B", "@", "while x > 8 -> out end 7 | out end 9", "out end 9 -> exit"}},
		{"while x > 8 { out end 7; @ out end 8; }", "out end 8", "fail", "while x > 8", []string{"out end 7 -> @B", "@", "out end 8 -> while x > 8", "while x > 8 -> out end 7 | exit"}},

		{"try { @ } catch y { out end 8; } out end 9;", "out end 9", "try y", "@B", []string{"@", "out end 8 -> out end 9", "try y -> out end 8", "out end 9 -> exit"}},
		{"try { out end 7; @ } catch y { }", "exit", "try y", "out end 7", []string{"out end 7 -> @B", "@", "try y -> exit"}},
		{"try { @ out end 7; } catch y { }", "out end 7", "try y", "@B", []string{"@", "out end 7 -> exit", "try y -> exit"}},
		{"try { out end 7; } catch y { @ } out end 9;", "out end 9", "fail", "out end 7", []string{"out end 7 -> out end 9", "@", "try y -> @B", "out end 9 -> exit"}},
		{"try { } catch y { out end 7; @ }", "exit", "fail", "exit", []string{"out end 7 -> @B", "@", "try y -> out end 7"}},
		{"try { } catch y { @ out end 7; } out end 9;", "out end 7", "fail", "out end 9", []string{"@", "out end 7 -> out end 9", "try y -> @B", "out end 9 -> exit"}},

		{"try { if x > 8 { @ } } catch y { out end 8; }", "exit", "try y", "if x > 8", []string{"@", "if x > 8 -> @B | exit", "out end 8 -> exit", "try y -> out end 8"}},
		{"try { while x > 8 { @ } } catch y { out end 8; }", "while x > 8", "try y", "while x > 8", []string{"@", "while x > 8 -> @B | exit", "out end 8 -> exit", "try y -> out end 8"}},
		{"try { out end 6; } catch y { if x > 8 { } else { @ } }", "exit", "fail", "out end 6", []string{"out end 6 -> exit", "@", "if x > 8 -> exit | @B", "try y -> if x > 8"}},
		{"while x > 8 { if x > 9 { @ } }", "while x > 8", "fail", "while x > 8", []string{"@", "if x > 9 -> @B | while x > 8", "while x > 8 -> if x > 9 | exit"}},
		{"while x > 8 { while x > 9 { @ } }", "while x > 9", "fail", "while x > 8", []string{"@", "while x > 9 -> @B | while x > 8", "while x > 8 -> while x > 9 | exit"}},
		{"while x > 8 { try { @ } catch y { } }", "while x > 8", "try y", "while x > 8", []string{"@", "try y -> while x > 8", "while x > 8 -> @B | exit"}},

		{"try { try { @ } catch g { out end 7; } } catch y { out end 8; } out end 9;", "out end 9", "try g", "@B", []string{"@", "out end 7 -> out end 9", "try g -> out end 7", "out end 8 -> out end 9", "try y -> out end 8", "out end 9 -> exit"}},
		{"try { try { out end 7; } catch g { @ } } catch y { out end 8; } out end 9;", "out end 9", "try y", "out end 7", []string{"out end 7 -> out end 9", "@", "try g -> @B", "out end 8 -> out end 9", "try y -> out end 8", "out end 9 -> exit"}},
		{"try { out end 7; } catch y { try { @ } catch g { out end 8; } } out end 9;", "out end 9", "try g", "out end 7", []string{"out end 7 -> out end 9", "@", "out end 8 -> out end 9", "try g -> out end 8", "try y -> @B", "out end 9 -> exit"}},
		{"try { out end 7; } catch y { try { out end 8; } catch g { @ } } out end 9;", "out end 9", "fail", "out end 7", []string{"out end 7 -> out end 9", "out end 8 -> out end 9", "@", "try g -> @B", "try y -> out end 8", "out end 9 -> exit"}},
	}
}

// TestF1KindsEverywhere: each kind of statement as the only one of its Block, the first, the last and one between others, in each Block that there is.
func TestF1KindsEverywhere(t *testing.T) {
	for _, stand := range standRows() {
		for _, kind := range kindRows() {
			begin := strings.ReplaceAll(kind.begin, "@F", stand.follow)
			var lines []string
			for _, line := range stand.lines {
				if line == "@" {
					lines = append(lines, kind.lines...)
				} else {
					lines = append(lines, line)
				}
			}
			replace := strings.NewReplacer("@F", stand.follow, "@H", stand.handler, "@B", begin)
			for i := range lines {
				lines[i] = replace.Replace(lines[i])
			}
			wantMain(t, strings.ReplaceAll(stand.text, "@", kind.text), strings.ReplaceAll(stand.begin, "@B", begin), lines...)
		}
	}
}

// TestF1EmptyBlocks: where nothing is, control goes on to what follows.
func TestF1EmptyBlocks(t *testing.T) {
	wantMain(t, "", "exit")
	wantMain(t, "if b { } else { }", "if b", "if b -> exit | exit")
	wantMain(t, "while b { }", "while b", "while b -> while b | exit")
	wantMain(t, "try { } catch x { }", "exit", "try x -> exit")
	wantMain(t, "try { } catch x { } try { } catch y { } out lo 1;", "out lo 1", "try x -> out lo 1", "try y -> out lo 1", "out lo 1 -> exit")
	wantMain(t, "try { try { } catch x { } } catch y { }", "exit", "try x -> exit", "try y -> exit")
	wantMain(t, "while b { try { } catch x { } }", "while b", "try x -> while b", "while b -> while b | exit")
	wantMain(t, "while b { while x < 1 { } }", "while b", "while x < 1 -> while x < 1 | while b", "while b -> while x < 1 | exit")
	wantMain(t, "if b { if x < 1 { } } else { try { } catch x { } } while x < 2 { }", "if b", "if x < 1 -> while x < 2 | while x < 2", "try x -> while x < 2", "if b -> if x < 1 | while x < 2", "while x < 2 -> while x < 2 | exit")
	wantMain(t, "try { } catch x { while b { } }", "exit", "while b -> while b | exit", "try x -> while b")
}

// TestF1Nested: loops and conditions within one another.
func TestF1Nested(t *testing.T) {
	wantMain(t, "while b { while x < 1 { out lo 1; } }", "while b",
		"out lo 1 -> while x < 1", "while x < 1 -> out lo 1 | while b", "while b -> while x < 1 | exit")
	wantMain(t, "while b { out lo 1; while x < 1 { out lo 2; } out lo 3; } out lo 4;", "while b",
		"out lo 1 -> while x < 1", "out lo 2 -> while x < 1", "while x < 1 -> out lo 2 | out lo 3", "out lo 3 -> while b", "while b -> out lo 1 | out lo 4", "out lo 4 -> exit")
	wantMain(t, "while b { out lo 1; if x < 1 { out lo 2; } else { out lo 3; } } out lo 4;", "while b",
		"out lo 1 -> if x < 1", "out lo 2 -> while b", "out lo 3 -> while b", "if x < 1 -> out lo 2 | out lo 3", "while b -> out lo 1 | out lo 4", "out lo 4 -> exit")
	wantMain(t, "while b { if x < 1 { out lo 2; } } out lo 4;", "while b",
		"out lo 2 -> while b", "if x < 1 -> out lo 2 | while b", "while b -> if x < 1 | out lo 4", "out lo 4 -> exit")
	wantMain(t, "if b { if x < 1 { out lo 1; } else { out lo 2; } } else { while x < 2 { out lo 3; } } out lo 4;", "if b",
		"out lo 1 -> out lo 4", "out lo 2 -> out lo 4", "if x < 1 -> out lo 1 | out lo 2", "out lo 3 -> while x < 2", "while x < 2 -> out lo 3 | out lo 4", "if b -> if x < 1 | while x < 2", "out lo 4 -> exit")
}

// TestF1Handlers: statements that may raise outside of all Trys, in both Blocks of one, and behind it.
func TestF1Handlers(t *testing.T) {
	wantMain(t, "a[0] = 0; try { a[1] = 1; } catch x { a[2] = 2; } a[3] = 3;", "a[0] = 0",
		"a[0] = 0 -> a[1] = 1 ! fail", "a[1] = 1 -> a[3] = 3 ! try x", "a[2] = 2 -> a[3] = 3 ! fail", "try x -> a[2] = 2", "a[3] = 3 -> exit ! fail")
	wantMain(t, "try { x = 1 / x; try { throw 1; } catch x { call f(1); } a = new 1; } catch y { throw 2; } throw 3;", "x = 1 / x",
		"x = 1 / x -> throw 1 ! try y", "throw 1 -> ! try x", "call f(1) -> a = new 1 ! try y", "try x -> call f(1)", "a = new 1 -> throw 3 ! try y", "throw 2 -> ! fail", "try y -> throw 2", "throw 3 -> ! fail")
	wantMain(t, "try { out lo a[0]; } catch x { try { out lo a[1]; } catch y { out lo a[2]; } out lo a[3]; }", "out lo a[0]",
		"out lo a[0] -> exit ! try x", "out lo a[1] -> out lo a[3] ! try y", "out lo a[2] -> out lo a[3] ! fail", "try y -> out lo a[2]", "out lo a[3] -> exit ! fail", "try x -> out lo a[1]")
	wantMain(t, "try { if a[0] < 1 { while a[1] < 1 { x = a[2]; } } else { x = a[3]; } } catch y { if a[4] < 1 { } }", "if a[0] < 1",
		"x = a[2] -> while a[1] < 1 ! try y", "while a[1] < 1 -> x = a[2] | exit ! try y", "x = a[3] -> exit ! try y", "if a[0] < 1 -> while a[1] < 1 | x = a[3] ! try y", "if a[4] < 1 -> exit | exit ! fail", "try y -> if a[4] < 1")
	// Trys that stand side by side have nothing to do with each other.
	wantMain(t, "try { throw 1; } catch x { throw 2; } try { throw 3; } catch y { throw 4; }", "throw 1",
		"throw 1 -> ! try x", "throw 2 -> ! fail", "try x -> throw 2", "throw 3 -> ! try y", "throw 4 -> ! fail", "try y -> throw 4")
}

// TestF1NothingBehind: a Throw and a Return with statements behind them, which control never comes to, and at the end.
func TestF1NothingBehind(t *testing.T) {
	wantMain(t, "return; out lo 1;", "return", "return -> exit", "out lo 1 -> exit")
	wantMain(t, "throw 1; out lo 1;", "throw 1", "throw 1 -> ! fail", "out lo 1 -> exit")
	wantMain(t, "out lo 1; return;", "out lo 1", "out lo 1 -> return", "return -> exit")
	wantMain(t, "out lo 1; throw 1;", "out lo 1", "out lo 1 -> throw 1", "throw 1 -> ! fail")
	wantMain(t, "while b { return; out lo 1; } if b == b { throw 1; out lo 2; } out lo 3;", "while b",
		"return -> exit", "out lo 1 -> while b", "while b -> return | if b == b", "throw 1 -> ! fail", "out lo 2 -> out lo 3", "if b == b -> throw 1 | out lo 3", "out lo 3 -> exit")
	wantMain(t, "try { return; throw 1; out lo 1; } catch x { return; }", "return",
		"return -> exit", "throw 1 -> ! try x", "out lo 1 -> exit", "return -> exit", "try x -> return")
	// Two Returns, one behind the other, each go to the Exit.
	wantMain(t, "return; return;", "return", "return -> exit", "return -> exit")
	wantLines(t, "proc main() { } proc f(x int) int { if x < 1 { return 1; } try { return 2 / x; } catch x { return 3 / x; } return 4; }", 1,
		"entry f -> if x < 1", "exit f ->", "fail f ->", "return 1 -> exit f", "if x < 1 -> return 1 | return 2 / x", "return 2 / x -> exit f ! try x", "return 3 / x -> exit f ! fail f", "try x -> return 3 / x", "return 4 -> exit f")
}

// TestF1Procedures: several of them, behind Globals and without, with statements and without, each with ends of its own.
func TestF1Procedures(t *testing.T) {
	text := "var g int; var h arr; proc f(x int) int { var y int; y = x / 2; return y; } proc none() { } proc main() { var z int; try { z = call f(g); } catch g { return; } } proc last(a arr) { a[0] = 1; }"
	wantLines(t, text, 0, "entry f -> y = x / 2", "exit f ->", "fail f ->", "y = x / 2 -> return y ! fail f", "return y -> exit f")
	wantLines(t, text, 1, "entry none -> exit none", "exit none ->", "fail none ->")
	wantLines(t, text, 2, "entry -> z = call f(g)", "exit ->", "fail ->", "z = call f(g) -> exit ! try g", "return -> exit", "try g -> return")
	wantLines(t, text, 3, "entry last -> a[0] = 1", "exit last ->", "fail last ->", "a[0] = 1 -> exit last ! fail last")
	x := parsed(t, text)
	g := built(t, x)
	if !slices.Equal(g.Procs, x.Nodes[x.Root].Kids[2:]) || len(g.Nodes) != 18 {
		t.Error(g)
	}
	for proc, want := range [][3]int{{0, 1, 2}, {5, 6, 7}, {8, 9, 10}, {14, 15, 16}} {
		if got := [3]int{g.Entry(proc), g.Exit(proc), g.Fail(proc)}; got != want {
			t.Error(proc, got)
		}
		for _, n := range want {
			if g.Nodes[n].Proc != proc || g.Nodes[n].At != g.Procs[proc] || g.Nodes[n].Kind != n-want[0]+Entry || g.Nodes[n].Raise != -1 {
				t.Error(n, g.Nodes[n])
			}
		}
	}
	// A Global ahead moves the places, and nothing else.
	wantLines(t, "proc main() { return; }", 0, "entry -> return", "exit ->", "fail ->", "return -> exit")
	wantLines(t, "var a int; var b bool; proc main() { return; }", 0, "entry -> return", "exit ->", "fail ->", "return -> exit")
	if g := built(t, parsed(t, "var a int; var b bool; proc main() { return; }")); !slices.Equal(g.Procs, []int{4}) || g.Nodes[3].At != 2 || g.Of(2) != 3 {
		t.Error(g)
	}
}

// TestF1Order: Next is in the table's order, whichever number is less.
func TestF1Order(t *testing.T) {
	x := parsed(t, mainHead+"while b { if b { out lo 1; } else { out lo 2; } }"+mainTail)
	g := built(t, x)
	while, branch := g.Of(only(t, x, api.While)), g.Of(only(t, x, api.If))
	if got := g.Nodes[while].Next; !slices.Equal(got, []int{branch, 1}) || branch < 1 {
		t.Error(got)
	}
	if got := g.Nodes[branch].Next; !slices.Equal(got, []int{3, 4}) {
		t.Error(got)
	}
	x = parsed(t, mainHead+"while b { if b { } else { out lo 2; } }"+mainTail)
	g = built(t, x)
	while, branch = g.Of(only(t, x, api.While)), g.Of(only(t, x, api.If))
	if got := g.Nodes[branch].Next; !slices.Equal(got, []int{while, 3}) || while < 3 {
		t.Error(got)
	}
	if got := g.After(branch); !slices.Equal(got, []int{3, while}) {
		t.Error(got)
	}
}
