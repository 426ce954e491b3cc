package post

import (
	"math/rand"
	"slices"
	"strconv"
	"strings"
)

// grow makes the texts of random programs without an error.
type grow struct {
	*rand.Rand
	answer string // what the procedure that is being made answers: " x + 1" or nothing
}

func newGrow(seed int64) *grow { return &grow{Rand: rand.New(rand.NewSource(seed))} }

func (g *grow) pick(from ...string) string { return from[g.Intn(len(from))] }

// program has a main among so many other procedures, and Globals ahead of them or none.
func (g *grow) program(others, room int) string {
	var procs []string
	for i := range others {
		if g.Intn(2) == 0 {
			procs = append(procs, g.proc("f"+strconv.Itoa(i), "(x int) int", "", " x + 1", room))
		} else {
			procs = append(procs, g.proc("f"+strconv.Itoa(i), "(q bool)", "var x int; ", "", room))
		}
	}
	procs = slices.Insert(procs, g.Intn(others+1), g.proc("main", "()", "var x int; ", "", room))
	return g.pick("", "var g int; ", "var k arr; var main_ fun; ") + strings.Join(procs, "")
}

func (g *grow) proc(name, head, locals, answer string, room int) string {
	g.answer = answer
	return "proc " + name + head + " { " + locals + "var y int; var b bool; var a arr; var u fun; " + g.block(room) + "}\n"
}

func (g *grow) block(room int) string {
	var text string
	for range g.Intn(4) {
		text += g.statement(room)
	}
	return text
}

func (g *grow) statement(room int) string {
	switch g.Intn(12) {
	case 0:
		return g.pick("x = "+g.integer(2), "b = "+g.truth(2), "a = a", "y = y") + "; "
	case 1:
		return "a[" + g.integer(1) + "] = " + g.integer(1) + "; "
	case 2:
		return "x = in " + g.pick("lo", "hi") + "; "
	case 3:
		return "out lo " + g.integer(2) + "; "
	case 4, 5:
		if room > 0 {
			return "if " + g.truth(2) + " { " + g.block(room-1) + g.pick("} else { "+g.block(room-1), "") + "} "
		}
	case 6:
		if room > 0 {
			return "while " + g.truth(2) + " { " + g.block(room-1) + "} "
		}
	case 7, 8:
		if room > 0 {
			return "try { " + g.block(room-1) + "} catch " + g.pick("x", "y") + " { " + g.block(room-1) + "} "
		}
	case 9:
		return g.pick("call main()", "call u("+g.integer(1)+")", "x = call u(1)") + "; "
	case 10:
		return g.pick("throw "+g.integer(1), "return"+g.answer) + "; "
	}
	return "a = new " + g.integer(1) + "; "
}

func (g *grow) integer(room int) string {
	if room == 0 || g.Intn(3) == 0 {
		return g.pick("x", "y", "len a", "1", "0", "77")
	}
	return g.pick("a["+g.integer(room-1)+"]", "-"+g.integer(room-1), "("+g.integer(room-1)+" "+g.pick("+", "-", "*", "/", "%")+" "+g.integer(room-1)+")")
}

func (g *grow) truth(room int) string {
	if room == 0 || g.Intn(3) == 0 {
		return g.pick("b", "true", "false", "(x < y)", "!b")
	}
	return g.pick("!("+g.truth(room-1)+")", "("+g.integer(room-1)+" "+g.pick("==", "!=", "<", "<=", ">", ">=")+" "+g.integer(room-1)+")", "("+g.truth(room-1)+" "+g.pick("&&", "||", "==", "!=")+" "+g.truth(room-1)+")")
}
