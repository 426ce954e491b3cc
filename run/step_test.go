package run

import (
	"fmt"
	"slices"
	"strings"
	"testing"

	"runnel/api"
	"runnel/value"
)

// head has procedures of each sort and begins main, with variables of each type; tail ends it.
const (
	head = "var g int; var G fun; " +
		"proc f(x int) int { var y int; y = y + x; return y * 2; } " +
		"proc n() { } " +
		"proc bad(x int) int { throw x; } " +
		"proc main() { var x int; var y int; var b bool; var a arr; var c arr; var h fun; "
	tail = " }"
)

// course is a run: the text of main, the inputs, the nodes that are executed between the Entry of main and its end, and how it ended.
type course struct {
	text  string
	in    []Input
	nodes string
	end   string
}

// hold holds runs against what they must be.
func hold(t *testing.T, head, tail string, courses []course) {
	t.Helper()
	for _, c := range courses {
		x := parsed(t, head+c.text+tail)
		m, e := New(x, c.in)
		if e != api.OK {
			t.Fatal(c.text, e)
		}
		got := walked(t, x, m, 5000)
		want := "entry main; " + c.nodes + map[int]string{Halted: "; exit main", Raised: "; fail main"}[m.Status()]
		if strings.Join(got, "; ") != want {
			t.Errorf("%s: %s, not %s", c.text, strings.Join(got, "; "), want)
		}
		if told := ended(m); told != c.end {
			t.Errorf("%s: %s, not %s", c.text, told, c.end)
		}
	}
}

func holdMain(t *testing.T, courses ...course) {
	t.Helper()
	hold(t, head, tail, courses)
}

// TestM1Assign: a variable is set to what the expression is worth; where that raises, it remains as it is.
func TestM1Assign(t *testing.T) {
	holdMain(t,
		course{"x = 2; y = x + 3; out lo y;", nil, "x = 2; y = x + 3; out lo y", "lo 5, halted 0 in 5"},
		course{"x = 2; x = x * x; out lo x; g = x; out lo g;", nil, "x = 2; x = x * x; out lo x; g = x; out lo g", "lo 4, lo 4, halted 0 in 7"},
		course{"x = 9223372036854775807 + 1; out lo x;", nil, "x = 9223372036854775807 + 1; out lo x", "lo -9223372036854775808, halted 0 in 4"},
		course{"b = 1 < 2 && !b; if b { out lo 1; }", nil, "b = (1 < 2) && !b; if b; out lo 1", "lo 1, halted 0 in 5"},
		course{"x = 1; x = 2 / 0; out lo x;", nil, "x = 1; x = 2 / 0", "raised 1 in 4"},
		course{"x = a[0];", nil, "x = a[0]", "raised 3 in 3"},
		course{"x = 1 / 0 + a[0];", nil, "x = (1 / 0) + a[0]", "raised 1 in 3"},
		course{"x = a[0] + 1 / 0;", nil, "x = a[0] + (1 / 0)", "raised 3 in 3"},
		course{"try { x = 1; x = 1 / 0; } catch y { } out lo x;", nil, "x = 1; x = 1 / 0; catch y; out lo x", "lo 1, halted 0 in 6"},
	)
}

// TestM1AssignArrays: arrays are not copied: two variables may hold the same one.
func TestM1AssignArrays(t *testing.T) {
	holdMain(t, course{"a = new 1; c = a; c[0] = 7; out lo a[0]; c = new 1; c[0] = 8; out lo a[0];", nil,
		"a = new 1; c = a; c[0] = 7; out lo a[0]; c = new 1; c[0] = 8; out lo a[0]", "lo 7, lo 7, halted 0 in 9"})
}

// TestM1Store: the index is evaluated, then the value, and only then there must be such a cell.
func TestM1Store(t *testing.T) {
	holdMain(t,
		course{"a = new 2; a[1] = 5; out lo a[1]; out lo a[0];", nil, "a = new 2; a[1] = 5; out lo a[1]; out lo a[0]", "lo 5, lo 0, halted 0 in 6"},
		course{"a[0] = 1;", nil, "a[0] = 1", "raised 3 in 3"},
		course{"a = new 2; a[2] = 1;", nil, "a = new 2; a[2] = 1", "raised 2 in 4"},
		course{"a = new 2; a[-1] = 1;", nil, "a = new 2; a[-1] = 1", "raised 2 in 4"},
		course{"a = new 0; a[0] = 1;", nil, "a = new 0; a[0] = 1", "raised 2 in 4"},
		course{"a[c[0]] = 1 / 0;", nil, "a[c[0]] = 1 / 0", "raised 3 in 3"},
		course{"a[1 / 0] = c[0];", nil, "a[1 / 0] = c[0]", "raised 1 in 3"},
		course{"a[0] = 1 / 0;", nil, "a[0] = 1 / 0", "raised 1 in 3"},
		course{"a = new 1; a[9] = 1 % 0;", nil, "a = new 1; a[9] = 1 % 0", "raised 1 in 4"},
		course{"a = new 2; try { a[0] = 1; a[2] = 9; } catch y { out lo y; } out lo a[0] + a[1];", nil,
			"a = new 2; a[0] = 1; a[2] = 9; catch y; out lo y; out lo a[0] + a[1]", "lo 2, lo 1, halted 0 in 8"},
		course{"a = new 3; a[0] = 2; a[a[0]] = a[0] + 4; out lo a[2];", nil, "a = new 3; a[0] = 2; a[a[0]] = a[0] + 4; out lo a[2]", "lo 6, halted 0 in 6"},
	)
}

// TestM1Out: an event is written, unless the value raises.
func TestM1Out(t *testing.T) {
	holdMain(t,
		course{"out lo 1; out hi -2; out lo 1;", nil, "out lo 1; out hi -2; out lo 1", "lo 1, hi -2, lo 1, halted 0 in 5"},
		course{"out lo 1; out lo 1 / 0; out lo 3;", nil, "out lo 1; out lo 1 / 0", "lo 1, raised 1 in 4"},
		course{"try { out lo len a; out lo a[0]; } catch x { out hi x; }", nil, "out lo len a; out lo a[0]; catch x; out hi x", "lo 0, hi 3, halted 0 in 6"},
	)
}

// TestM1In: the numbers of the first input of a channel, and then zeros; each of them moves the cursor.
func TestM1In(t *testing.T) {
	const text, nodes = "x = in lo; out lo x; x = in lo; out lo x; x = 9; x = in lo; out lo x;", "x = in lo; out lo x; x = in lo; out lo x; x = 9; x = in lo; out lo x"
	lists := []struct {
		in   []Input
		want string
	}{
		{nil, "lo 0, lo 0, lo 0"},
		{[]Input{{"lo", nil}}, "lo 0, lo 0, lo 0"},
		{[]Input{{"lo", []int{7, -5, 6}}}, "lo 7, lo -5, lo 6"},
		{[]Input{{"lo", []int{7, 5, 6, 4}}}, "lo 7, lo 5, lo 6"},
		{[]Input{{"lo", []int{7, 5}}}, "lo 7, lo 5, lo 0"},
		{[]Input{{"lo", []int{7}}}, "lo 7, lo 0, lo 0"},
		{[]Input{{"lo", []int{7}}, {"lo", []int{1, 2, 3}}}, "lo 7, lo 0, lo 0"},
		{[]Input{{"lo", nil}, {"lo", []int{1, 2, 3}}}, "lo 0, lo 0, lo 0"},
		{[]Input{{"hi", []int{1}}, {"lo", []int{4, 5}}, {"mid", nil}}, "lo 4, lo 5, lo 0"},
		{[]Input{{"hi", []int{1}}, {"", []int{2}}, {"l", []int{3}}, {"lo ", []int{4}}, {"LO", []int{5}}}, "lo 0, lo 0, lo 0"},
	}
	for _, l := range lists {
		holdMain(t, course{text, l.in, nodes, l.want + ", halted 0 in 9"})
		m := begun(t, head+text+tail, l.in...)
		for i, want := range []int{0, 0, 1, 1, 2, 2, 2, 3, 3, 3} {
			if got := m.Config().Cursors; !slices.Equal(got, []Event{{"lo", want}}) {
				t.Error(i, got)
			}
			m.Step()
		}
	}
}

// TestM1InChannels: each channel has a cursor and an input of its own, wherever it is read.
func TestM1InChannels(t *testing.T) {
	text := "var g int; proc f() { g = in hi; out hi g; } proc main() { var x int; g = in lo; call f(); x = in hi; out lo g * 10 + x; g = in other; call f(); }"
	m := begun(t, text, Input{"hi", []int{1, 2, 3}}, Input{"unread", []int{9}}, Input{"lo", []int{5}})
	m.Run(100)
	if told := ended(m); told != "hi 1, lo 12, hi 3, halted 0 in 16" {
		t.Error(told)
	}
	if got := m.Config().Cursors; !slices.Equal(got, []Event{{"hi", 3}, {"lo", 1}, {"other", 1}}) {
		t.Error(got)
	}
}

// TestM1If: the first Block if the condition is true, otherwise the second one, and then what follows.
func TestM1If(t *testing.T) {
	holdMain(t,
		course{"if true { x = 1; } out lo x;", nil, "if true; x = 1; out lo x", "lo 1, halted 0 in 5"},
		course{"if false { x = 1; } out lo x;", nil, "if false; out lo x", "lo 0, halted 0 in 4"},
		course{"if x == 0 { out lo 1; } else { out lo 2; } out lo 3;", nil, "if x == 0; out lo 1; out lo 3", "lo 1, lo 3, halted 0 in 5"},
		course{"if x != 0 { out lo 1; } else { out lo 2; } out lo 3;", nil, "if x != 0; out lo 2; out lo 3", "lo 2, lo 3, halted 0 in 5"},
		course{"if b { } else { } if !b { } else { }", nil, "if b; if !b", "halted 0 in 4"},
		course{"if b { out lo 1; } else { if !b { out lo 2; } else { out lo 3; } }", nil, "if b; if !b; out lo 2", "lo 2, halted 0 in 5"},
		course{"if 1 / x == 1 { out lo 1; } else { out lo 2; }", nil, "if (1 / x) == 1", "raised 1 in 3"},
		course{"if b && a[0] == 0 { out lo 1; }", nil, "if b && (a[0] == 0)", "raised 3 in 3"},
		course{"try { if true { throw 4; } out lo 1; } catch x { out lo x; }", nil, "if true; throw 4; catch x; out lo x", "lo 4, halted 0 in 6"},
	)
}

// TestM1While: the Block as long as the condition is true, which is asked again each time.
func TestM1While(t *testing.T) {
	holdMain(t,
		course{"while x < 2 { x = x + 1; } out lo x;", nil, "while x < 2; x = x + 1; while x < 2; x = x + 1; while x < 2; out lo x", "lo 2, halted 0 in 8"},
		course{"while b { out lo 1; } out lo 2;", nil, "while b; out lo 2", "lo 2, halted 0 in 4"},
		course{"while 1 / x > 0 { out lo 1; }", nil, "while (1 / x) > 0", "raised 1 in 3"},
		course{"x = 2; while 4 / x > 0 { x = x - 1; }", nil, "x = 2; while (4 / x) > 0; x = x - 1; while (4 / x) > 0; x = x - 1; while (4 / x) > 0", "raised 1 in 8"},
		course{"while true { if x > 0 { return; } x = 1; }", nil, "while true; if x > 0; x = 1; while true; if x > 0; return", "halted 0 in 8"},
		course{"while x < 2 { x = x + 1; while y < x { y = y + 1; } }", nil,
			"while x < 2; x = x + 1; while y < x; y = y + 1; while y < x; while x < 2; x = x + 1; while y < x; y = y + 1; while y < x; while x < 2", "halted 0 in 13"},
	)
	m := begun(t, "proc main() { while true { } }")
	if n := m.Run(5000); n != 5000 || ended(m) != "running 0 in 5000" {
		t.Error(n, ended(m))
	}
}

// TestM1New: a new array of zeros, or the exception of a length that there is not, which is raised also where there is no space.
func TestM1New(t *testing.T) {
	holdMain(t,
		course{"a = new 2; out lo len a; out lo a[0] + a[1];", nil, "a = new 2; out lo len a; out lo a[0] + a[1]", "lo 2, lo 0, halted 0 in 5"},
		course{"a = new 0; out lo len a;", nil, "a = new 0; out lo len a", "lo 0, halted 0 in 4"},
		course{"a = new 65536; a[65535] = 3; out lo len a + a[65535];", nil, "a = new 65536; a[65535] = 3; out lo len a + a[65535]", "lo 65539, halted 0 in 5"},
		course{"a = new 65537;", nil, "a = new 65537", "raised 4 in 3"},
		course{"a = new -1;", nil, "a = new -1", "raised 4 in 3"},
		course{"a = new 9223372036854775807 + 1;", nil, "a = new 9223372036854775807 + 1", "raised 4 in 3"},
		course{"a = new 1 / 0;", nil, "a = new 1 / 0", "raised 1 in 3"},
		course{"a = new a[0];", nil, "a = new a[0]", "raised 3 in 3"},
		course{"a = new 3; try { a = new -1; } catch x { out lo x; } out lo len a;", nil, "a = new 3; a = new -1; catch x; out lo x; out lo len a", "lo 4, lo 3, halted 0 in 7"},
		course{"a = new 65536; a = new 65536; a = new 65536; a = new 65532; out lo 1; a = new 0;", nil,
			"a = new 65536; a = new 65536; a = new 65536; a = new 65532; out lo 1; a = new 0", "lo 1, exhausted 0 in 7"},
		course{"a = new 65536; a = new 65536; a = new 65536; a = new 65533; out lo 1;", nil, "a = new 65536; a = new 65536; a = new 65536; a = new 65533", "exhausted 0 in 5"},
		course{"a = new 65536; a = new 65536; a = new 65536; c = new 65532; try { a = new 65537; } catch x { out lo x; } try { a = new -1; } catch x { out lo x; } a = new 1 % 0;", nil,
			"a = new 65536; a = new 65536; a = new 65536; c = new 65532; a = new 65537; catch x; out lo x; a = new -1; catch x; out lo x; a = new 1 % 0", "lo 4, lo 4, raised 1 in 13"},
	)
}

// TestM1NewNumbers: arrays are numbered in the order in which they are made.
func TestM1NewNumbers(t *testing.T) {
	m := begun(t, head+"a = new 2; c = new 1; a[1] = 6; a = new 0; h = &f;"+tail)
	m.Run(6)
	c := m.Config()
	if !equalArrays(c.Arrays, [][]int{{0, 6}, {0}, {}}) {
		t.Error(c.Arrays)
	}
	names := c.Frames[0].Names
	if names[3] != (value.Name{Text: "a", V: arr(3)}) || names[4] != (value.Name{Text: "c", V: arr(2)}) || names[5].V.N == 0 {
		t.Error(names)
	}
}

// TestM1Return: the Answer is set, and whatever it lies in, the Exit is next.
func TestM1Return(t *testing.T) {
	hold(t, "", "", []course{
		{"proc main() { out lo 1; return; out lo 2; }", nil, "out lo 1; return", "lo 1, halted 0 in 4"},
		{"proc f() int { return 3; } proc main() { var x int; x = 5; x = call f(); out lo x; }", nil, "x = 5; x = call f(); > entry f; > return 3; > exit f; out lo x", "lo 3, halted 0 in 8"},
	})
	holdMain(t,
		course{"while true { try { try { return; } catch x { out lo 1; } } catch x { out lo 2; } }", nil, "while true; return", "halted 0 in 4"},
		course{"try { throw 1; } catch x { return; } out lo 1;", nil, "throw 1; catch x; return", "halted 0 in 5"},
	)
}

// TestM1ReturnRaises: a value that raises sets no Answer, and does not return.
func TestM1ReturnRaises(t *testing.T) {
	text := "proc f(x int) int { try { return 6 / x; } catch x { out lo x; } } proc main() { var y int; y = 8; y = call f(0); out lo y; y = call f(2); out lo y; }"
	hold(t, "", "", []course{{text, nil, "y = 8; y = call f(0); > entry f; > return 6 / x; > catch x; > out lo x; > exit f; out lo y; y = call f(2); > entry f; > return 6 / x; > exit f; out lo y",
		"lo 1, lo 0, lo 3, halted 0 in 15"}})
	hold(t, "", "", []course{{"proc f() int { return 1 / 0; } proc main() { var y int; y = call f(); out lo y; }", nil, "y = call f(); > entry f; > return 1 / 0; > fail f", "raised 1 in 6"}})
}

// TestM1Answers: the Answer of a frame is zero at first and has the type of the procedure's result, or none.
func TestM1Answers(t *testing.T) {
	for _, c := range []struct {
		result, value  string
		before, behind value.Value
	}{
		{"int", "7", num(0), num(7)},
		{"bool", "true", is(0), is(1)},
		{"arr", "a", arr(0), arr(1)},
		{"fun", "&i", fun(0), fun(5)},
		{"", "", value.Value{}, value.Value{}},
	} {
		text := "proc i(x int) int { return x; } proc f() " + c.result + " { var a arr; a = new 1; return " + c.value + "; } proc main() { call f(); }"
		m := begun(t, text)
		m.Run(1)
		for step, want := range []value.Value{c.before, c.before, c.before, c.behind} {
			m.Run(1)
			frames := m.Config().Frames
			if len(frames) != 2 || frames[1].Answer != want || frames[0].Answer != (value.Value{}) {
				t.Errorf("%s: %v, %d", c.result, frames, step)
			}
		}
	}
}

// TestM1NoReturn: a procedure that ends without a Return answers zero.
func TestM1NoReturn(t *testing.T) {
	text := "var u fun; proc i() int { } proc b() bool { } proc a() arr { } proc u2() fun { } proc k(x int) int { if x > 0 { return 1; } } " +
		"proc main() { var x int; var t bool; var r arr; x = 4; x = call i(); out lo x; t = true; t = call b(); if !t { out lo 2; } r = new 3; r = call a(); out lo len r; u = &k; u = call u2(); try { call u(1); } catch x { out lo x; } " +
		"x = call k(1); out lo x; x = call k(0); out lo x; }"
	m := begun(t, text)
	m.Run(1000)
	if told := ended(m); !strings.HasPrefix(told, "lo 0, lo 2, lo 0, lo 5, lo 1, lo 0, halted 0 in ") {
		t.Error(told)
	}
}

// TestM1Throw: any number may be raised, also 0.
func TestM1Throw(t *testing.T) {
	holdMain(t,
		course{"throw 7; out lo 1;", nil, "throw 7", "raised 7 in 3"},
		course{"throw 0; out lo 1;", nil, "throw 0", "raised 0 in 3"},
		course{"throw -9223372036854775807 - 1;", nil, "throw -9223372036854775807 - 1", "raised -9223372036854775808 in 3"},
		course{"throw 1 / 0;", nil, "throw 1 / 0", "raised 1 in 3"},
		course{"throw a[0];", nil, "throw a[0]", "raised 3 in 3"},
		course{"x = 4; try { throw 0; } catch x { out lo x; } out lo 1;", nil, "x = 4; throw 0; catch x; out lo x; out lo 1", "lo 0, lo 1, halted 0 in 7"},
	)
}

// TestM1Try: its variable is set to the Exception, which becomes 0; without an exception nothing of it happens.
func TestM1Try(t *testing.T) {
	holdMain(t,
		course{"x = 3; try { y = 1; } catch x { out lo 9; } out lo x;", nil, "x = 3; y = 1; out lo x", "lo 3, halted 0 in 5"},
		course{"x = 3; try { } catch x { out lo 9; } out lo x;", nil, "x = 3; out lo x", "lo 3, halted 0 in 4"},
		course{"try { throw 8; out lo 1; } catch g { } out lo g;", nil, "throw 8; catch g; out lo g", "lo 8, halted 0 in 5"},
		course{"try { try { throw 4; } catch x { out lo x; } out lo 5; } catch y { out lo 6; }", nil, "throw 4; catch x; out lo x; out lo 5", "lo 4, lo 5, halted 0 in 6"},
		course{"try { try { throw 4; } catch x { throw x + 1; } out lo 5; } catch y { out lo y; out lo x; }", nil, "throw 4; catch x; throw x + 1; catch y; out lo y; out lo x", "lo 5, lo 4, halted 0 in 8"},
		course{"try { throw 4; } catch x { throw 6; } out lo 5;", nil, "throw 4; catch x; throw 6", "raised 6 in 5"},
		course{"try { throw 4; } catch x { x = x / 0; } out lo 5;", nil, "throw 4; catch x; x = x / 0", "raised 1 in 5"},
		course{"try { throw 1; } catch x { try { throw 2; } catch x { out lo x; } out lo x; }", nil, "throw 1; catch x; throw 2; catch x; out lo x; out lo x", "lo 2, lo 2, halted 0 in 8"},
		course{"while x < 2 { try { x = x + 1; throw x * 10; } catch y { out lo y; } }", nil,
			"while x < 2; x = x + 1; throw x * 10; catch y; out lo y; while x < 2; x = x + 1; throw x * 10; catch y; out lo y; while x < 2", "lo 10, lo 20, halted 0 in 13"},
	)
}

// TestM1Exception: what is being raised, from the step that raises it to that of the Try.
func TestM1Exception(t *testing.T) {
	m := begun(t, head+"try { x = call bad(6); } catch y { x = a[0]; }"+tail)
	want := []int{0, 0, 0, 0, 6, 6, 0, 3, 3}
	for i, e := range want {
		if c := m.Config(); c.Exception != e || c.Steps != i {
			t.Errorf("%d, not %d, after %d steps", c.Exception, e, i)
		}
		m.Step()
	}
	if m.Status() != Raised {
		t.Error(ended(m))
	}
}

// TestM1CallRaises: an exception that nobody catches in a procedure is raised by the Call, frame by frame.
func TestM1CallRaises(t *testing.T) {
	holdMain(t,
		course{"x = 2; x = call bad(7); out lo x;", nil, "x = 2; x = call bad(7); > entry bad; > throw x; > fail bad", "raised 7 in 7"},
		course{"x = 2; try { x = call bad(7); out lo 1; } catch y { out lo y; } out lo x;", nil, "x = 2; x = call bad(7); > entry bad; > throw x; > fail bad; catch y; out lo y; out lo x", "lo 7, lo 2, halted 0 in 10"},
		course{"h = &bad; try { call h(0); } catch y { out lo y + 1; }", nil, "h = &bad; call h(0); > entry bad; > throw x; > fail bad; catch y; out lo y + 1", "lo 1, halted 0 in 9"},
	)
	deep := "proc one() { var k int; try { call two(); } catch k { throw k * 2; } } proc two() { call three(); out lo 1; } proc three() { throw 4; } proc main() { var x int; "
	hold(t, deep, " }", []course{
		{"call three();", nil, "call three(); > entry three; > throw 4; > fail three", "raised 4 in 6"},
		{"call two();", nil, "call two(); > entry two; > call three(); > > entry three; > > throw 4; > > fail three; > fail two", "raised 4 in 9"},
		{"try { call one(); } catch x { out lo x; }", nil,
			"call one(); > entry one; > call two(); > > entry two; > > call three(); > > > entry three; > > > throw 4; > > > fail three; > > fail two; > catch k; > throw k * 2; > fail one; catch x; out lo x", "lo 8, halted 0 in 16"},
	})
}

// TestM1Call: the arguments are the Params, the Locals are zero each time, and the Call goes on when the frame is removed.
func TestM1Call(t *testing.T) {
	holdMain(t,
		course{"x = call f(2); out lo x; x = call f(3); out lo x;", nil,
			"x = call f(2); > entry f; > y = y + x; > return y * 2; > exit f; out lo x; x = call f(3); > entry f; > y = y + x; > return y * 2; > exit f; out lo x", "lo 4, lo 6, halted 0 in 14"},
		course{"x = 1; call f(2); out lo x;", nil, "x = 1; call f(2); > entry f; > y = y + x; > return y * 2; > exit f; out lo x", "lo 1, halted 0 in 9"},
		course{"g = call f(5); out lo g;", nil, "g = call f(5); > entry f; > y = y + x; > return y * 2; > exit f; out lo g", "lo 10, halted 0 in 8"},
		course{"call n(); out lo 1;", nil, "call n(); > entry n; > exit n; out lo 1", "lo 1, halted 0 in 6"},
		course{"h = &f; x = call h(3); out lo x;", nil, "h = &f; x = call h(3); > entry f; > y = y + x; > return y * 2; > exit f; out lo x", "lo 6, halted 0 in 9"},
		course{"G = &f; h = G; call h(3); call G(1);", nil,
			"G = &f; h = G; call h(3); > entry f; > y = y + x; > return y * 2; > exit f; call G(1); > entry f; > y = y + x; > return y * 2; > exit f", "halted 0 in 14"},
		course{"x = 6; try { x = call h(1); out lo 1; } catch y { out lo y; } out lo x;", nil, "x = 6; x = call h(1); catch y; out lo y; out lo x", "lo 5, lo 6, halted 0 in 7"},
		course{"call G(1);", nil, "call G(1)", "raised 5 in 3"},
		course{"x = call h(1 / 0);", nil, "x = call h(1 / 0)", "raised 1 in 3"},
		course{"x = call f(a[0] + 1 / 0);", nil, "x = call f(a[0] + (1 / 0))", "raised 3 in 3"},
	)
}

// TestM1CallArguments: arguments are evaluated from the first one on, in the frame of the Call, and an array is the caller's own.
func TestM1CallArguments(t *testing.T) {
	head := "var g int; proc p(a int, b bool, c arr, d fun) int { var e int; if b { c[0] = a; } e = call d(a + 1); return e; } proc twice(x int) int { return x * 2; } proc two(x int, y int) { out lo x * 10 + y; } proc main() { var x int; var a arr; var b bool; "
	hold(t, head, " }", []course{
		{"a = new 1; x = call p(6, 1 < 2, a, &twice); out lo x; out lo a[0];", nil,
			"a = new 1; x = call p(6, 1 < 2, a, &twice); > entry p; > if b; > c[0] = a; > e = call d(a + 1); > > entry twice; > > return x * 2; > > exit twice; > return e; > exit p; out lo x; out lo a[0]", "lo 14, lo 6, halted 0 in 15"},
		{"call two(1, 2);", nil, "call two(1, 2); > entry two; > out lo (x * 10) + y; > exit two", "lo 12, halted 0 in 6"},
		{"x = 3; call two(x + 1, x);", nil, "x = 3; call two(x + 1, x); > entry two; > out lo (x * 10) + y; > exit two", "lo 43, halted 0 in 7"},
		{"call two(1 / 0, a[0]);", nil, "call two(1 / 0, a[0])", "raised 1 in 3"},
		{"call two(a[0], 1 / 0);", nil, "call two(a[0], 1 / 0)", "raised 3 in 3"},
		{"call two(1, 1 / 0);", nil, "call two(1, 1 / 0)", "raised 1 in 3"},
	})
}

// TestM1CallFrames: what a frame is, and that the Call remains the current node of the one below.
func TestM1CallFrames(t *testing.T) {
	m := begun(t, "proc f(x int, b bool) arr { var y int; var a arr; a = new x; return a; } proc main() { var x int; var r arr; x = 4; r = call f(x - 1, true); out lo len r; }")
	call := m.graph.Of(slices.IndexFunc(m.tree.Nodes, func(n api.Node) bool { return n.Kind == api.Call }))
	m.Run(3)
	main := Frame{Proc: 1, Node: call, Names: []value.Name{{Text: "x", V: num(4)}, {Text: "r", V: arr(0)}}}
	f := Frame{Proc: 0, Node: m.graph.Entry(0), Answer: arr(0), Names: []value.Name{{Text: "x", V: num(3)}, {Text: "b", V: is(1)}, {Text: "y", V: num(0)}, {Text: "a", V: arr(0)}}}
	frames := func(want ...Frame) {
		t.Helper()
		if got := m.Config().Frames; !slices.EqualFunc(got, want, equalFrames) {
			t.Errorf("%+v, not %+v", got, want)
		}
	}
	frames(main, f)
	m.Run(2)
	f.Node, f.Names[3].V = m.graph.Of(slices.IndexFunc(m.tree.Nodes, func(n api.Node) bool { return n.Kind == api.Return })), arr(1)
	frames(main, f)
	m.Run(1)
	f.Node, f.Answer = m.graph.Exit(0), arr(1)
	frames(main, f)
	m.Run(1)
	main.Names[1].V = arr(1)
	main.Node = m.graph.Of(slices.IndexFunc(m.tree.Nodes, func(n api.Node) bool { return n.Kind == api.Out }))
	frames(main)
	m.Run(9)
	frames()
}

// TestM1Shadow: a name is that of the frame if it has one, and otherwise a global, in each statement that sets or reads it.
func TestM1Shadow(t *testing.T) {
	globals := "var x int; var a arr; var h fun; proc one(k int) int { return 1; } proc two(k int) int { return 2; } " +
		"proc show() { out lo x; out lo len a; try { x = call h(0); out lo x; } catch x { out lo x; } } "
	// In `main` all names are the globals', in `own` its own.
	sets := "x = 7; a = new 2; a[1] = 6; h = &two; out hi x + a[1]; x = in lo; out hi x; try { throw 3; } catch x { out hi x; } x = call h(0); out hi x; while x < 4 { x = x + 3; } if x == 5 { out hi x + len a; } "
	m := begun(t, globals+"proc own() { var x int; var a arr; var h fun; "+sets+"} proc main() { call own(); call show(); out top 0; "+sets+" call show(); }", Input{"lo", []int{40, 41}})
	m.Run(1000)
	const hi = "hi 13, hi 40, hi 3, hi 2, hi 7"
	want := hi + ", lo 0, lo 0, lo 5, top 0, " + strings.Replace(hi, "40", "41", 1) + ", lo 5, lo 2, lo 2, halted 0 in "
	if told := ended(m); !strings.HasPrefix(told, want) {
		t.Error(told)
	}
}

// TestM1ShadowProcedure: a variable is called ahead of a procedure of its name, and its address is still the procedure's.
func TestM1ShadowProcedure(t *testing.T) {
	head := "proc one(k int) int { return 1; } proc two(k int) int { return 2; } "
	hold(t, head+"proc main() { var x int; var one fun; ", " }", []course{
		{"x = call one(0);", nil, "x = call one(0)", "raised 5 in 3"},
		{"one = &two; x = call one(0); out lo x;", nil, "one = &two; x = call one(0); > entry two; > return 2; > exit two; out lo x", "lo 2, halted 0 in 8"},
		{"one = &one; x = call one(0); out lo x;", nil, "one = &one; x = call one(0); > entry one; > return 1; > exit one; out lo x", "lo 1, halted 0 in 8"},
	})
	hold(t, head+"proc main() { var main int; var two int; ", " }", []course{
		{"main = call one(0); two = main + 1; out lo two;", nil, "main = call one(0); > entry one; > return 1; > exit one; two = main + 1; out lo two", "lo 2, halted 0 in 8"},
	})
}

// TestM1Recursion: each frame has names of its own.
func TestM1Recursion(t *testing.T) {
	m := begun(t, "proc fac(n int) int { var r int; if n < 2 { return 1; } r = call fac(n - 1); return n * r; } proc main() { var x int; x = call fac(10); out lo x; call main2(3); } "+
		"proc main2(n int) { if n > 0 { call main2(n - 1); } out hi n; }")
	m.Run(1000)
	if told := ended(m); !strings.HasPrefix(told, "lo 3628800, hi 0, hi 1, hi 2, hi 3, halted 0 in ") {
		t.Error(told)
	}
	// A main that is called is a procedure as any other.
	m = begun(t, "var g int; proc main() { g = g + 1; if g < 3 { call main(); } out lo g; }")
	m.Run(1000)
	if told := ended(m); told != "lo 3, lo 3, lo 3, halted 0 in "+fmt.Sprint(3*5+2) {
		t.Error(told)
	}
}
