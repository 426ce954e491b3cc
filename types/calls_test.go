package types

import (
	"strings"
	"testing"

	"runnel/api"
)

func TestC1CallsWithoutAnError(t *testing.T) {
	for _, statements := range []string{
		"call f(1);", "x = call f(y);", "g = call f(g);", "x = call f(a[0] + len a);",
		"call pair(a, b);", "call pair(p, x == 1);", "call main();",
		"b = call test(1);", "k = call test(x);", "call test(1);",
		"u = call pick(v);", "u = call pick(&f);", "call pick(h);",
		"a = call make(3);", "call make(3);", "x = call five();", "call five();",
		"call u(1);", "x = call u(1);", "call h(x);", "g = call h(len a);",
	} {
		wantOK(t, body(statements))
	}
}

// TestC1CallOfAProcedure: too few, too many and wrong arguments, and a variable that can't take the result.
func TestC1CallOfAProcedure(t *testing.T) {
	wantFaults(t, api.Call, api.ErrType,
		"@call f();", "@call f(1, 2);", "@call f(b);", "@call f(a);", "@call f(u);", "@call f(true);", "@call f(&f);", "@call f(b, 1);", "@call f(1, b);",
		"@x = call f();", "@x = call f(1, 2);", "@x = call f(b);", "@x = call f(a);",
		"@call five(1);", "@x = call five(1);", "@x = call five(b);", "@call main(1);",
		"@call pair();", "@call pair(a);", "@call pair(b);", "@call pair(b, a);", "@call pair(a, a);", "@call pair(b, b);", "@call pair(a, b, 1);", "@call pair(a, 1);",
		"@call pick(1);", "@call make(a);", "@u = call pick(&f, 1);",
		"@b = call f(1);", "@a = call f(1);", "@u = call f(1);", "@k = call f(1);", "@b = call five();",
		"@x = call test(1);", "@a = call test(1);", "@u = call test(1);",
		"@x = call make(1);", "@b = call make(1);", "@u = call make(1);",
		"@x = call pick(u);", "@b = call pick(u);", "@a = call pick(u);",
		"@b = call f(b);", "@a = call f();")
}

// TestC1CallWithoutAResult: no variable takes the result of a procedure that has none.
func TestC1CallWithoutAResult(t *testing.T) {
	wantFaults(t, api.Call, api.ErrType, "@x = call pair(a, b);", "@b = call pair(a, b);", "@a = call pair(a, b);", "@u = call pair(a, b);", "@g = call pair(a, b);", "@x = call main();", "@x = call pair();")
}

// TestC1CallOfAVariable: a Fun takes one Int and answers one, and nothing else can be called.
func TestC1CallOfAVariable(t *testing.T) {
	wantFaults(t, api.Call, api.ErrType,
		"@call u();", "@call u(1, 2);", "@call u(b);", "@call u(a);", "@call u(u);", "@call u(b, 1);", "@call u(1, b);", "@x = call u();", "@x = call u(1, 2);", "@x = call h(b);",
		"@b = call u(1);", "@a = call u(1);", "@u = call u(1);", "@k = call h(1);", "@h = call h(1);",
		"@call x(1);", "@call b(1);", "@call a(1);", "@call x();", "@x = call x(1);", "@x = call a(1);", "@b = call b(1);", "@call g(1);", "@x = call p(1);", "@b = call k(b);")
}

// TestC1CallOfAHiddenProcedure: a variable hides a procedure of its name, whether it can be called or not.
func TestC1CallOfAHiddenProcedure(t *testing.T) {
	two := "proc f(x int, y int) bool { return true; } "
	plain := "proc f(x int) int { return x; } "
	wantOK(t, two+"proc main() { var f fun; var x int; f = &g; x = call f(1); call f(2); } proc g(x int) int { return x; }")
	wantOK(t, two+"proc h(f fun) int { var x int; x = call f(1); return x; } proc main() { var b bool; b = call f(1, 2); }")
	wantFault(t, two+"proc main() { var f fun; @call f(1, 2); }", api.Call, api.ErrType)
	wantFault(t, two+"proc main() { var f fun; var b bool; @b = call f(1); }", api.Call, api.ErrType)
	wantFault(t, plain+"proc main() { var f int; @call f(1); }", api.Call, api.ErrType)
	wantFault(t, plain+"proc main() { var f bool; @call f(1); }", api.Call, api.ErrType)
	wantFault(t, plain+"proc main() { var f arr; var x int; @x = call f(1); }", api.Call, api.ErrType)
	wantFault(t, plain+"proc g(f int) { @call f(1); } proc main() { call f(1); }", api.Call, api.ErrType)
	// A Global of a procedure's name is an error, but of the Proc, which stands behind the Call.
	wantFault(t, "var f int; proc main() { @call f(1); } "+plain, api.Call, api.ErrType)
	wantFault(t, "var f fun; proc main() { call f(1); } @"+plain, api.Proc, api.ErrThere)
	wantFault(t, "var f fun; proc main() { @call f(1, 2); } "+two, api.Call, api.ErrType)
}

// TestC1CallOfTheFirst: of several procedures of a name, the first one is called, wherever the Call stands.
func TestC1CallOfTheFirst(t *testing.T) {
	wantFault(t, "proc main() { call f(1); } proc f(x int) { } @proc f() { }", api.Proc, api.ErrThere)
	wantFault(t, "proc main() { @call f(); } proc f(x int) { } proc f() { }", api.Call, api.ErrType)
	wantFault(t, "proc f() { } @proc f(x int) { call f(); } proc main() { }", api.Proc, api.ErrThere)
	wantFault(t, "proc f() { } proc f(x int) { @call f(1); } proc main() { }", api.Call, api.ErrType)
}

// TestC1CallAhead: a procedure may be called ahead of where it stands, and by itself.
func TestC1CallAhead(t *testing.T) {
	wantOK(t, "proc main() { var b bool; b = call f(1, b); } proc f(x int, y bool) bool { y = call f(x, y); return y; }")
	wantFault(t, "proc main() { var b bool; @b = call f(1); } proc f(x int, y bool) bool { return y; }", api.Call, api.ErrType)
	wantFault(t, "proc main() { } proc f(x int) int { @call f(true); return x; }", api.Call, api.ErrType)
}

// TestC1CallTakesParams: what a procedure takes are its Params, not its Locals.
func TestC1CallTakesParams(t *testing.T) {
	wantOK(t, "proc f(x int) { var y int; var z bool; } proc main() { call f(1); }")
	wantOK(t, "proc f() { var y int; } proc main() { call f(); }")
	wantFault(t, "proc f() { var y int; } proc main() { @call f(1); }", api.Call, api.ErrType)
	wantFault(t, "proc f(x int) { var y int; } proc main() { @call f(1, 2); }", api.Call, api.ErrType)
}

func TestC1Return(t *testing.T) {
	values := map[string]string{"int": "1", "bool": "true", "arr": "a", "fun": "&f"}
	frame := func(result, statement string) string {
		return "var a arr; proc f(x int) int { return x; } proc main() { } proc g() " + result + " { var b bool; " + statement + " }"
	}
	for _, result := range []string{"", "int", "bool", "arr", "fun"} {
		if result == "" {
			wantOK(t, frame(result, "return;"))
			wantOK(t, frame(result, "if b { return; } while b { return; }"))
		} else {
			wantFault(t, frame(result, "@return;"), api.Return, api.ErrType)
			wantFault(t, frame(result, "if b { } else { @return; }"), api.Return, api.ErrType)
		}
		wantOK(t, frame(result, "")) // Nobody must return.
		for of, value := range values {
			if of == result {
				wantOK(t, frame(result, "return "+value+";"))
			} else {
				wantFault(t, frame(result, "@return "+value+";"), api.Return, api.ErrType)
				wantFault(t, frame(result, "try { @return "+value+"; } catch b { }"), api.Return, api.ErrType)
			}
		}
	}
	wantFault(t, frame("int", "return @nil;"), api.Var, api.ErrName)
	wantFault(t, frame("", "return @nil;"), api.Var, api.ErrName)
	wantOK(t, "proc f() int { return 1; } proc g() bool { return true; } proc main() { return; }")
	wantFault(t, "proc f() int { return 1; } proc main() { @return 1; } proc g() int { return 1; }", api.Return, api.ErrType)
}

// TestC1Addr: of plain procedures, which take one Int and answer one, whatever Locals they have, and of no others.
func TestC1Addr(t *testing.T) {
	frame := func(proc string) string { return "proc main() { var u fun; u = @&f; } " + proc }
	for _, proc := range []string{"proc f(x int) int { }", "proc f(x int) int { var y bool; var z arr; return x; }", "proc f(f int) int { }"} {
		wantOK(t, strings.Replace(frame(proc), "@", "", 1))
	}
	for _, proc := range []string{
		"proc f() int { }", "proc f(x int, y int) int { }", "proc f(x int, y bool) int { }", "proc f(x bool) int { }", "proc f(x arr) int { }", "proc f(x fun) int { }",
		"proc f(x int) { }", "proc f(x int) bool { }", "proc f(x int) arr { }", "proc f(x int) fun { }", "proc f() { }", "proc f() { var x int; }", "proc f() int { var x int; }",
	} {
		wantFault(t, frame(proc), api.Addr, api.ErrType)
	}
	wantFault(t, frame(""), api.Addr, api.ErrName)
	wantFault(t, "proc main() { var u fun; u = @&main; }", api.Addr, api.ErrType)
	// A variable of its name doesn't hide a procedure from an Addr, nor does another procedure behind it.
	wantOK(t, "proc f(x int) int { return x; } proc main() { var f fun; f = &f; call f(1); }")
	wantOK(t, "proc f(x int) int { return x; } proc g(f bool) { var u fun; u = &f; } proc main() { }")
	wantFault(t, "proc f(x int) int { return x; } @proc f() { } proc main() { var u fun; u = &f; }", api.Proc, api.ErrThere)
	wantFault(t, "proc main() { var u fun; u = @&f; } proc f() { } proc f(x int) int { return x; }", api.Addr, api.ErrType)
}

func TestC1Main(t *testing.T) {
	for _, text := range []string{
		"", "var x int;", "var main int;", "var main fun;", "proc f() { }", "proc Main() { }", "proc main_() { }", "proc f() { var main int; }",
		"proc main() int { }", "proc main() int { return 1; }", "proc main() bool { }", "proc main() arr { }", "proc main() fun { }",
		"proc main(x int) { }", "proc main(x bool) { }", "proc main(x arr, y int) { }", "proc main(x int) int { return x; }",
		"proc f() { } proc main(x int) { } proc g() { call main(1); }",
	} {
		wantRoot(t, text)
	}
	wantOK(t, "proc f() { } proc main() { var x int; var y fun; } proc g() { }")
	wantOK(t, "proc main() { var main bool; }")
	// Any other error comes first.
	wantFault(t, "var x int; @var x int;", api.Global, api.ErrThere)
	wantFault(t, "proc f() { @x = 1; }", api.Assign, api.ErrName)
	wantFault(t, "proc main() int { @return; }", api.Return, api.ErrType)
	wantFault(t, "proc main(x int) { @x = true; }", api.Assign, api.ErrType)
}
