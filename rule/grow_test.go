package rule

import (
	"math/rand"
	"strconv"
	"strings"
)

// maker makes the texts of random programs without an error, in which much is decided and much may raise.
type maker struct{ *rand.Rand }

func (m maker) one(from ...string) string { return from[m.Intn(len(from))] }

// program has so many procedures beside main, some ahead of it.
func (m maker) program(others, deep int) string {
	var text strings.Builder
	main := m.Intn(others + 1)
	for i := range others + 1 {
		head, answer := "p"+strconv.Itoa(i)+"(x int) int { ", " x"
		if i == main {
			head, answer = "main() { var x int; ", ""
		}
		text.WriteString("proc " + head + "var y int; var b bool; var a arr; var u fun; " + m.block(deep, answer) + "} ")
	}
	return text.String()
}

func (m maker) block(deep int, answer string) string {
	var text string
	for range m.Intn(4) {
		text += m.statement(deep, answer) + " "
	}
	return text
}

func (m maker) statement(deep int, answer string) string {
	block := func() string { return "{ " + m.block(deep-1, answer) + "}" }
	kind := m.Intn(14)
	if deep == 0 {
		kind %= 6
	}
	switch kind {
	case 0:
		return m.one("x = y + 1;", "x = in lo;", "out lo x;", "out hi 2;", "u = u;", "b = !b;")
	case 1:
		return m.one("a[x] = 1;", "a = new x;", "out lo a[0];", "x = 1 / y;", "b = 1 % x == y;")
	case 2:
		return m.one("call main();", "x = call u(y);", "call u(a[1]);")
	case 3:
		return m.one("return"+answer+";", "throw x;", "throw 1 / x;", "out lo 3;", "out lo 4;")
	case 4, 5:
		return "out lo " + strconv.Itoa(m.Intn(100)) + ";"
	case 6, 7, 8:
		return "if " + m.condition() + " " + block() + m.one("", " else "+block())
	case 9, 10, 11:
		return "while " + m.condition() + " " + block()
	}
	return "try " + block() + " catch " + m.one("x", "y") + " " + block()
}

func (m maker) condition() string { return m.one("b", "true", "x < y", "a[x] == 1", "x / y > 2") }
