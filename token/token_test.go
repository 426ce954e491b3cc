package token

import (
	"math"
	"math/big"
	"math/rand"
	"regexp"
	"slices"
	"strconv"
	"strings"
	"testing"

	"runnel/api"
)

var keywords = strings.Fields("var proc int bool arr fun in out if else while call return throw try catch new len true false")

var operators = strings.Fields("( ) { } [ ] , ; = == != < <= > >= + - * / % ! && || &")

// The model cuts by patterns, the plainest way to say what Cut must do.
var (
	blank    = regexp.MustCompile(`^(?:[ \t\n]+|#[^\n]*)`)
	run      = regexp.MustCompile(`^[A-Za-z0-9_]+`)
	operator = regexp.MustCompile(`^(?:==|!=|<=|>=|&&|\|\||[(){}\[\],;=<>+\-*/%!&])`)
	name     = regexp.MustCompile(`^[A-Za-z_][A-Za-z0-9_]{0,19}$`)
	digits   = regexp.MustCompile(`^(?:0|[1-9][0-9]*)$`)
)

func modelCut(s string) ([]api.Token, int, api.Errno) {
	if len(s) > 20000 {
		return nil, 0, api.ErrLong
	}
	var l []api.Token
	for at := 0; at < len(s); {
		if skip := blank.FindString(s[at:]); skip != "" {
			at += len(skip)
			continue
		}
		t := api.Token{Kind: api.Sign, At: at, Text: operator.FindString(s[at:])}
		if text := run.FindString(s[at:]); text != "" {
			t = modelRun(text, at)
		}
		if t.Kind == 0 || t.Text == "" {
			return nil, at, api.ErrForm
		}
		l = append(l, t)
		at += len(t.Text)
	}
	return append(l, api.Token{Kind: api.End, At: len(s)}), 0, api.OK
}

// modelRun is the token of letters, digits and _, of Kind 0 if it is none.
func modelRun(text string, at int) api.Token {
	t := api.Token{At: at, Text: text}
	switch {
	case slices.Contains(keywords, text):
		t.Kind = api.Word
	case name.MatchString(text):
		t.Kind = api.Name
	case digits.MatchString(text):
		n, _ := new(big.Int).SetString(text, 10)
		if n.Cmp(big.NewInt(math.MaxInt64)) <= 0 {
			t.Kind, t.N = api.Number, int(n.Int64())
		}
	}
	return t
}

// modelPlace counts byte by byte.
func modelPlace(s string, at int) (int, int) {
	line, column := 1, 1
	for i := 0; i < at && i < len(s); i++ {
		column++
		if s[i] == 10 {
			line, column = line+1, 1
		}
	}
	return line, column
}

// hold holds what Cut answers for a text against the model and against T3.
func hold(t *testing.T, s string) {
	t.Helper()
	l, at, e := Cut(s)
	want, wantAt, wantE := modelCut(s)
	if !slices.Equal(l, want) || at != wantAt || e != wantE {
		t.Fatalf("%.200q: %v, %d, %v, not %v, %d, %v", s, l, at, e, want, wantAt, wantE)
	}
	if e == api.OK {
		holdT3(t, s, l)
	}
}

func holdT3(t *testing.T, s string, l []api.Token) {
	t.Helper()
	for _, x := range l {
		if x.At < 0 || x.At+len(x.Text) > len(s) || s[x.At:x.At+len(x.Text)] != x.Text {
			t.Fatalf("%.200q: not the text at its offset: %v", s, x)
		}
	}
	joined := Join(l)
	if len(joined) > api.MaxText {
		return
	}
	again, at, e := Cut(joined)
	if at != 0 || e != api.OK || !slices.Equal(unplaced(again), unplaced(l)) {
		t.Fatalf("%.200q joined: %.200q: %v, %d, %v", s, joined, again, at, e)
	}
}

// unplaced are tokens without their offsets.
func unplaced(l []api.Token) []api.Token {
	out := slices.Clone(l)
	for i := range out {
		out[i].At = 0
	}
	return out
}

// wantTokens: a text is cut into words that are "kind:text" each, and an End.
func wantTokens(t *testing.T, s, want string) {
	t.Helper()
	l, at, e := Cut(s)
	var got []string
	for _, x := range l {
		got = append(got, strconv.Itoa(x.Kind)+":"+x.Text)
	}
	if strings.Join(got, " ") != strings.TrimSpace(want+" 5:") || at != 0 || e != api.OK {
		t.Errorf("%.200q: %q, %d, %v, not %q", s, got, at, e, want)
	}
	hold(t, s)
}

func wantError(t *testing.T, s string, wantAt int, want api.Errno) {
	t.Helper()
	if l, at, e := Cut(s); len(l) != 0 || at != wantAt || e != want {
		t.Errorf("%.200q: %v, %d, %v, not %d, %v", s, l, at, e, wantAt, want)
	}
	hold(t, s)
}

func TestExamples(t *testing.T) {
	l, at, e := Cut("x<=-12 # y")
	want := []api.Token{
		{Kind: api.Name, At: 0, Text: "x"},
		{Kind: api.Sign, At: 1, Text: "<="},
		{Kind: api.Sign, At: 3, Text: "-"},
		{Kind: api.Number, N: 12, At: 4, Text: "12"},
		{Kind: api.End, At: 10},
	}
	if !slices.Equal(l, want) || at != 0 || e != api.OK {
		t.Error(l, at, e)
	}
	wantError(t, "a 1b", 2, api.ErrForm)
	wantError(t, "a $", 2, api.ErrForm)
	wantError(t, "007", 0, api.ErrForm)
}

func TestT1Program(t *testing.T) {
	s := "# doubles\nvar g arr;\nproc f(q int) int {\n\treturn q*2; # q\n}\nproc main() { var h fun; h = &f; g = new 3; try { g[0] = len g; } catch x { out lo -x; } }\n"
	wantTokens(t, s, "4:var 1:g 4:arr 3:; 4:proc 1:f 3:( 1:q 4:int 3:) 4:int 3:{ 4:return 1:q 3:* 2:2 3:; 3:} "+
		"4:proc 1:main 3:( 3:) 3:{ 4:var 1:h 4:fun 3:; 1:h 3:= 3:& 1:f 3:; 1:g 3:= 4:new 2:3 3:; 4:try 3:{ 1:g 3:[ 2:0 3:] 3:= 4:len 1:g 3:; 3:} "+
		"4:catch 1:x 3:{ 4:out 1:lo 3:- 1:x 3:; 3:} 3:}")
}

func TestT1NothingButBlank(t *testing.T) {
	for _, s := range []string{"", " ", "\t", "\n", " \t\n", "#", "##", "# x", "#\n", "# $ 1a\n", "#\n#", " # x\n\t# y", "#\x00\xff\r é"} {
		l, at, e := Cut(s)
		if !slices.Equal(l, []api.Token{{Kind: api.End, At: len(s)}}) || at != 0 || e != api.OK {
			t.Errorf("%q: %v, %d, %v", s, l, at, e)
		}
	}
}

func TestT1Comments(t *testing.T) {
	wantTokens(t, "x # y", "1:x")
	wantTokens(t, "x # y\n", "1:x")
	wantTokens(t, "x#y\nz", "1:x 1:z")
	wantTokens(t, "x#y\n#z\nw#", "1:x 1:w")
	wantTokens(t, "12#\n34", "2:12 2:34")
	wantTokens(t, "=#\n=", "3:= 3:=")
	wantTokens(t, "a # b # c \r\v é \xff 007\nd", "1:a 1:d")
	wantError(t, "a # b\n$", 6, api.ErrForm)
}

func TestT1EveryKeyword(t *testing.T) {
	for _, k := range keywords {
		wantTokens(t, k, "4:"+k)
		wantTokens(t, k+" "+k, "4:"+k+" 4:"+k)
		wantTokens(t, k+";"+k, "4:"+k+" 3:; 4:"+k)
		for _, near := range []string{k + "s", k + "_", k + "0", "_" + k, "a" + k, strings.ToUpper(k), strings.ToUpper(k[:1]) + k[1:], k + k} {
			wantTokens(t, near, "1:"+near)
		}
		wantError(t, "0"+k, 0, api.ErrForm)
		wantError(t, k+"$", len(k), api.ErrForm)
	}
}

func TestT1EveryOperator(t *testing.T) {
	for _, o := range operators {
		wantTokens(t, o, "3:"+o)
		wantTokens(t, "a"+o+"1", "1:a 3:"+o+" 2:1")
		wantTokens(t, "1"+o+"a", "2:1 3:"+o+" 1:a")
		wantTokens(t, o+"#", "3:"+o)
		wantTokens(t, o+" "+o, "3:"+o+" 3:"+o)
		for _, next := range operators {
			hold(t, o+next)
			for _, third := range operators {
				hold(t, o+next+third)
			}
		}
	}
}

func TestT1LongestOperator(t *testing.T) {
	for s, want := range map[string]string{
		"==":    "3:==",
		"= =":   "3:= 3:=",
		"===":   "3:== 3:=",
		"====":  "3:== 3:==",
		"<==":   "3:<= 3:=",
		">==":   "3:>= 3:=",
		"!==":   "3:!= 3:=",
		"!!=":   "3:! 3:!=",
		"=!=":   "3:= 3:!=",
		"=<":    "3:= 3:<",
		"<>":    "3:< 3:>",
		"<<=":   "3:< 3:<=",
		"&&&":   "3:&& 3:&",
		"&&&&":  "3:&& 3:&&",
		"& &":   "3:& 3:&",
		"||||":  "3:|| 3:||",
		"||!&f": "3:|| 3:! 3:& 1:f",
		"--1":   "3:- 3:- 2:1",
		"+-":    "3:+ 3:-",
		"/*":    "3:/ 3:*",
		"//":    "3:/ 3:/",
		"()[]":  "3:( 3:) 3:[ 3:]",
	} {
		wantTokens(t, s, want)
	}
	for s, at := range map[string]int{"|": 0, "| |": 0, "|||": 2, "|=": 0, "&|": 1, "|&": 0, "a|b": 1, "||\n|": 3, "||#\n|": 4} {
		wantError(t, s, at, api.ErrForm)
	}
}

func TestT1Names(t *testing.T) {
	for size := 1; size <= 60; size++ {
		for _, first := range []string{"a", "Z", "_"} {
			s := first + strings.Repeat("9", size-1)
			if size <= 20 {
				wantTokens(t, s, "1:"+s)
				wantTokens(t, "("+s+")", "3:( 1:"+s+" 3:)")
			} else {
				wantError(t, s, 0, api.ErrForm)
				wantError(t, "x ="+s+" $", 3, api.ErrForm)
			}
		}
	}
	wantTokens(t, "aZ_09 _ __ A", "1:aZ_09 1:_ 1:__ 1:A")
	wantTokens(t, strings.Repeat("a", 20)+" b", "1:"+strings.Repeat("a", 20)+" 1:b")
}

func TestT1Numbers(t *testing.T) {
	for s, want := range map[string]int{"0": 0, "1": 1, "9": 9, "10": 10, "100": 100, "65536": 65536, "4294967296": 1 << 32, "999999999999999999": 999999999999999999,
		"1000000000000000000": 1000000000000000000, "9223372036854775806": math.MaxInt64 - 1, "9223372036854775807": math.MaxInt64} {
		l, at, e := Cut(" " + s + ";")
		if len(l) != 3 || l[0] != (api.Token{Kind: api.Number, N: want, At: 1, Text: s}) || at != 0 || e != api.OK {
			t.Error(s, l, at, e)
		}
	}
	for _, s := range []string{"00", "01", "000", "007", "00000000000000000000", "09223372036854775807", "9223372036854775808", "9223372036854775810", "9999999999999999999", "10000000000000000000",
		"18446744073709551615", "18446744073709551616", "18446744073709551617", "100000000000000000000", strings.Repeat("1", 20000-2)} {
		wantError(t, s, 0, api.ErrForm)
		wantError(t, "-"+s, 1, api.ErrForm)
		wantError(t, "1 "+s, 2, api.ErrForm)
	}
	wantTokens(t, "0 0", "2:0 2:0")
	wantTokens(t, "-9223372036854775807", "3:- 2:9223372036854775807")
}

func TestT1NumbersWithLetters(t *testing.T) {
	for _, s := range []string{"1a", "1_", "1_000", "0x1", "0x", "0b1", "0o7", "1e3", "1E3", "12Z", "0a", "9var", "1__", "1true"} {
		wantError(t, s, 0, api.ErrForm)
		wantError(t, "a "+s, 2, api.ErrForm)
		wantError(t, "a["+s+"]", 2, api.ErrForm)
	}
	wantError(t, "1.5", 1, api.ErrForm)
	wantTokens(t, "1 a", "2:1 1:a")
	wantTokens(t, "1#\na", "2:1 1:a")
	wantTokens(t, "1+a", "2:1 3:+ 1:a")
}

// TestT1OnlyNumbersHaveValues: the N of all other tokens is 0, whatever their texts are.
func TestT1OnlyNumbersHaveValues(t *testing.T) {
	l, _, _ := Cut("var a1 = 7 ; _2 12")
	want := []api.Token{
		{Kind: api.Word, At: 0, Text: "var"},
		{Kind: api.Name, At: 4, Text: "a1"},
		{Kind: api.Sign, At: 7, Text: "="},
		{Kind: api.Number, N: 7, At: 9, Text: "7"},
		{Kind: api.Sign, At: 11, Text: ";"},
		{Kind: api.Name, At: 13, Text: "_2"},
		{Kind: api.Number, N: 12, At: 16, Text: "12"},
		{Kind: api.End, At: 18},
	}
	if !slices.Equal(l, want) {
		t.Error(l)
	}
}

// TestT1EveryByte: each byte alone, in front of others, behind others, and any two of them.
func TestT1EveryByte(t *testing.T) {
	for c := range 256 {
		b := string([]byte{byte(c)})
		known := c == ' ' || c == '\t' || c == '\n' || c == '#' || strings.Contains("(){}[],;=<>+-*/%!&_", b) ||
			'a' <= c && c <= 'z' || 'A' <= c && c <= 'Z' || '0' <= c && c <= '9'
		if !known {
			wantError(t, b, 0, api.ErrForm)
			wantError(t, "ab"+b, 2, api.ErrForm)
			wantError(t, "ab 12 \n"+b+"x", 7, api.ErrForm)
			wantError(t, "=="+b, 2, api.ErrForm)
			wantTokens(t, "a #"+b, "1:a")
		} else if _, _, e := Cut(b); e != api.OK {
			t.Errorf("%q: %v", b, e)
		}
		for d := range 256 {
			hold(t, string([]byte{byte(c), byte(d)}))
		}
	}
	for _, s := range []string{"é", "ａ", "１", "\u00a0", "\u2028", "\ufeff", "\ufeffx", "\r", "\v", "\f", "\x00", "\x7f", "\x80", "\xff", "'", "\"", "`", "$", "~", "^", "?", ":", ".", "@", "\\"} {
		wantError(t, s, 0, api.ErrForm)
		wantError(t, "x"+s, 1, api.ErrForm)
	}
	wantError(t, "x\r\n", 1, api.ErrForm)
}

func TestT1WhichFaultFirst(t *testing.T) {
	for s, at := range map[string]int{"$ 1a": 0, "1a $": 0, "x 1a $": 2, "x $ 1a": 2, "007 008": 0, "x 7 008 007": 4, "a | $": 2, "$$": 0, "x\n\n1a\n$": 3, "# $\n $": 5, "1a#$": 0, "1a$": 0, "x$1a": 1,
		strings.Repeat("b", 21) + " $": 0, "$" + strings.Repeat("b", 21): 0, "= " + strings.Repeat("b", 21) + " 00": 2} {
		wantError(t, s, at, api.ErrForm)
	}
	last := strings.Repeat("a ", 9999)
	wantError(t, last+" $", 19999, api.ErrForm)
	wantError(t, last+"1a", 19998, api.ErrForm)
}

func TestT1Length(t *testing.T) {
	for _, c := range []string{" ", "\n", "#", "(", ";", "x", "1", "$", "\xff", "=", "|"} {
		for _, size := range []int{19998, 19999, 20000} {
			s := strings.Repeat(c, size)
			if _, _, e := Cut(s); e == api.ErrLong {
				t.Errorf("%q %d", c, size)
			}
			hold(t, s)
		}
		for _, size := range []int{20001, 20002, 40000, 1 << 16, 1 << 20} {
			wantError(t, strings.Repeat(c, size), 0, api.ErrLong)
		}
	}
	// A text that is too long is that, whatever else is wrong in it.
	wantError(t, "$ 1a 007"+strings.Repeat(" ", 20000), 0, api.ErrLong)
	wantError(t, strings.Repeat(" ", 20000)+"$", 0, api.ErrLong)
	if l, _, e := Cut(strings.Repeat("x ", 10000)); len(l) != 10001 || e != api.OK || l[9999].At != 19998 || l[10000] != (api.Token{Kind: api.End, At: 20000}) {
		t.Error(len(l), e)
	}
}

// pieces are bits of texts that touch each other in every way.
func pieces() []string {
	l := slices.Concat(keywords, operators)
	return append(l, " ", "  ", "\t", "\n", "#", "# x\n", "#\n", "a", "_", "Zz", "x1", "0", "1", "42", "007", "9223372036854775807", "9223372036854775808", "1a", "|", "$", "\xff", "é", "\r",
		strings.Repeat("n", 19), strings.Repeat("n", 20), strings.Repeat("n", 21))
}

func TestT1AllShortTexts(t *testing.T) {
	l := pieces()
	for _, a := range l {
		for _, b := range l {
			for _, c := range l {
				hold(t, a+b+c)
			}
		}
	}
}

func TestT1RandomTexts(t *testing.T) {
	r := rand.New(rand.NewSource(3))
	l := pieces()
	for range 3000 {
		var b strings.Builder
		for range r.Intn(60) {
			b.WriteString(l[r.Intn(len(l))])
			if r.Intn(2) == 0 {
				b.WriteByte(' ')
			}
		}
		hold(t, b.String())
	}
	const alphabet = "aZ_019 \t\n#(){}[],;=<>+-*/%!&|$\xe9"
	for range 3000 {
		s := make([]byte, r.Intn(40))
		for i := range s {
			s[i] = alphabet[r.Intn(len(alphabet))]
		}
		hold(t, string(s))
	}
}

// goodText is a text of count tokens with something blank behind each.
func goodText(r *rand.Rand, count int) string {
	words := slices.Concat(keywords, operators, []string{"a", "_", "x1", strings.Repeat("N", 20), "0", "7", "123", "9223372036854775807"})
	gaps := []string{" ", "\n", "\t", "  ", "# $\n", " #\n "}
	var b strings.Builder
	for range count {
		b.WriteString(words[r.Intn(len(words))])
		b.WriteString(gaps[r.Intn(len(gaps))])
	}
	return b.String()
}

func TestT2KeptAndIdent(t *testing.T) {
	for _, k := range keywords {
		if !Kept(k) || Ident(k) {
			t.Error(k)
		}
		for _, near := range []string{k + "s", "_" + k, strings.ToUpper(k), k + "1", k + k, "x" + k} {
			if Kept(near) || !Ident(near) {
				t.Error(near)
			}
		}
		for _, wrong := range []string{" " + k, k + " ", k + "\n", k + "\x00", "1" + k, k + " " + k, k + "#", k + ";"} {
			if Kept(wrong) || Ident(wrong) {
				t.Errorf("%q", wrong)
			}
		}
	}
	for _, s := range slices.Concat(operators, []string{"", " ", "x ", " x", "x y", "x-y", "x\n", "#", "x#", "0", "1x", "42", "é", "xé", "x\xff", "\x00", "x\x00", "ａ", strings.Repeat("var", 7), strings.Repeat("a", 20) + " ", strings.Repeat("a", 1<<20)}) {
		if Kept(s) || Ident(s) {
			t.Errorf("%.50q", s)
		}
	}
	for _, s := range []string{"a", "z", "A", "Z", "_", "__", "_0", "a9", "main", "aZ_09", "for", "Var", "end", "level", "nil"} {
		if Kept(s) || !Ident(s) {
			t.Error(s)
		}
	}
}

func TestT2IdentByByteAndLength(t *testing.T) {
	for c := range 256 {
		first := 'a' <= c && c <= 'z' || 'A' <= c && c <= 'Z' || c == '_'
		inner := first || '0' <= c && c <= '9'
		b := string([]byte{byte(c)})
		if Ident(b) != first || Ident(b+"a") != first || Kept(b) {
			t.Error("first", c)
		}
		if Ident("a"+b) != inner || Ident("a"+b+"z") != inner || Ident(strings.Repeat("a", 19)+b) != inner {
			t.Error("inner or last", c)
		}
	}
	for size := range 70 {
		if Ident(strings.Repeat("z", size)) != (1 <= size && size <= 20) {
			t.Error(size)
		}
	}
}

func TestT2Join(t *testing.T) {
	word := func(kind int, text string) api.Token { return api.Token{Kind: kind, Text: text} }
	end := api.Token{Kind: api.End, Text: "gone", At: 3}
	for _, c := range []struct {
		l    []api.Token
		want string
	}{
		{nil, ""},
		{[]api.Token{}, ""},
		{[]api.Token{end}, ""},
		{[]api.Token{end, end}, ""},
		{[]api.Token{word(api.Name, "a")}, "a"},
		{[]api.Token{word(api.Name, "a"), end}, "a"},
		{[]api.Token{end, word(api.Name, "a")}, "a"},
		{[]api.Token{word(api.Name, "a"), end, word(api.Sign, "=="), end, end, word(api.Number, "1"), word(api.Word, "var")}, "a == 1 var"},
		{[]api.Token{word(0, "zero"), word(-1, "less"), word(6, "more"), word(math.MaxInt, "most"), word(math.MinInt, "least")}, "zero less more most least"},
		{[]api.Token{word(api.Name, ""), word(api.Name, ""), word(api.Name, "")}, "  "},
		{[]api.Token{word(api.Name, ""), word(api.Name, "a")}, " a"},
		{[]api.Token{word(api.Name, "a"), end, word(api.Name, "")}, "a "},
		{[]api.Token{{}, {}}, " "},
		{[]api.Token{word(api.Name, " a\n"), word(api.Sign, "\xff#"), word(api.Number, "$ é")}, " a\n \xff# $ é"},
		{[]api.Token{{Kind: api.Number, N: 12, At: 7, Text: "13"}, {Kind: api.Number, N: 5}}, "13 "},
	} {
		if got := Join(c.l); got != c.want {
			t.Errorf("%v: %q, not %q", c.l, got, c.want)
		}
	}
	many := slices.Repeat([]api.Token{word(api.Sign, "("), end}, 50000)
	if got := Join(many); got != strings.Repeat("( ", 49999)+"(" {
		t.Error(len(got))
	}
}

func TestT2Place(t *testing.T) {
	for _, c := range []struct {
		s            string
		at           int
		line, column int
	}{
		{"", 0, 1, 1}, {"", 1, 1, 1}, {"", -1, 1, 1}, {"", math.MaxInt, 1, 1}, {"", math.MinInt, 1, 1},
		{"ab\n\nc", math.MinInt, 1, 1}, {"ab\n\nc", -1, 1, 1}, {"ab\n\nc", 0, 1, 1}, {"ab\n\nc", 1, 1, 2},
		{"ab\n\nc", 2, 1, 3}, {"ab\n\nc", 3, 2, 1}, {"ab\n\nc", 4, 3, 1}, {"ab\n\nc", 5, 3, 2},
		{"ab\n\nc", 6, 3, 2}, {"ab\n\nc", math.MaxInt, 3, 2},
		{"\n", 0, 1, 1}, {"\n", 1, 2, 1}, {"\n", 2, 2, 1},
		{"a\r\nb", 1, 1, 2}, {"a\r\nb", 2, 1, 3}, {"a\r\nb", 3, 2, 1}, {"a\rb", 2, 1, 3},
		{"é\tx", 1, 1, 2}, {"é\tx", 3, 1, 4}, {"\u2028x", 3, 1, 4}, {"\xff\xfe\nz", 3, 2, 1},
		{"# a\n$", 4, 2, 1},
	} {
		if line, column := Place(c.s, c.at); line != c.line || column != c.column {
			t.Errorf("%q %d: %d:%d, not %d:%d", c.s, c.at, line, column, c.line, c.column)
		}
	}
}

func TestT2PlaceOfAnyOffset(t *testing.T) {
	r := rand.New(rand.NewSource(4))
	for range 500 {
		s := make([]byte, r.Intn(30))
		for i := range s {
			s[i] = "ab\n\n\r\xff#"[r.Intn(7)]
		}
		for at := -3; at < len(s)+4; at++ {
			line, column := Place(string(s), at)
			if wantLine, wantColumn := modelPlace(string(s), at); line != wantLine || column != wantColumn {
				t.Fatalf("%q %d: %d:%d, not %d:%d", s, at, line, column, wantLine, wantColumn)
			}
		}
	}
	// There is no limit on the text that it looks at.
	long := strings.Repeat("abc\n", 1<<18)
	for at, want := range map[int][2]int{20001: {5001, 2}, len(long) - 1: {1 << 18, 4}, len(long): {1<<18 + 1, 1}, len(long) + 1: {1<<18 + 1, 1}} {
		if line, column := Place(long, at); line != want[0] || column != want[1] {
			t.Error(at, line, column)
		}
	}
}

func TestT3CutOfJoin(t *testing.T) {
	for s, want := range map[string]string{"x<=-12 # y": "x <= - 12", "a&&&b": "a && & b", "f(1,2);": "f ( 1 , 2 ) ;", " \n# x": "", "a#b\nc": "a c", "if x{}": "if x { }"} {
		l, _, _ := Cut(s)
		if got := Join(l); got != want {
			t.Errorf("%q: %q", s, got)
		}
		hold(t, s)
	}
	r := rand.New(rand.NewSource(5))
	for count := range 300 {
		s := goodText(r, count)
		l, at, e := Cut(s)
		if len(l) != count+1 || at != 0 || e != api.OK {
			t.Fatalf("%q: %d, %d, %v", s, len(l), at, e)
		}
		holdT3(t, s, l)
	}
}

// TestT3JoinedTooLong: the spaces may make a text too long for Cut, by T1.
func TestT3JoinedTooLong(t *testing.T) {
	l, _, e := Cut(strings.Repeat("(", 10000))
	if e != api.OK || len(Join(l)) != 19999 {
		t.Error(e, len(Join(l)))
	}
	again, _, e := Cut(Join(l))
	if len(again) != 10001 || e != api.OK {
		t.Error(len(again), e)
	}
	l, _, _ = Cut(strings.Repeat("(", 10001))
	if again, at, e := Cut(Join(l)); len(Join(l)) != 20001 || len(again) != 0 || at != 0 || e != api.ErrLong {
		t.Error(len(Join(l)), len(again), at, e)
	}
}

// TestP1Totality covers P1 and P7: no argument makes a call panic.
func TestP1Totality(t *testing.T) {
	texts := append(pieces(), "", "\x00", strings.Repeat("\n", 30000), strings.Repeat("1", 1<<20), strings.Repeat("|", 20000))
	offsets := []int{math.MinInt, math.MinInt + 1, -1 << 32, -1, 0, 1, 19999, 20000, 20001, 1 << 32, math.MaxInt - 1, math.MaxInt}
	for _, s := range texts {
		Cut(s)
		Kept(s)
		Ident(s)
		for _, at := range offsets {
			if line, column := Place(s, at); line < 1 || column < 1 {
				t.Errorf("%.50q %d: %d:%d", s, at, line, column)
			}
		}
		Join([]api.Token{{Kind: math.MinInt, N: -1, At: -1, Text: s}, {Kind: api.End, N: math.MaxInt, At: math.MaxInt, Text: s}})
	}
}

// TestP2NothingBesideAnError: no tokens that were found ahead of a fault.
func TestP2NothingBesideAnError(t *testing.T) {
	for _, s := range []string{"a b c $", "a b 1c", "a | b", strings.Repeat("a ", 10001)} {
		if l, _, e := Cut(s); len(l) != 0 || e == api.OK {
			t.Errorf("%.50q: %v, %v", s, l, e)
		}
	}
}

func TestP3Arguments(t *testing.T) {
	room := []api.Token{{Kind: api.End, At: 9, Text: "e"}, {Kind: api.Name, At: 1, Text: "a"}, {Kind: api.End}, {Kind: api.Number, N: 4, Text: "4"}, {Kind: api.Name, Text: "beyond"}, {Kind: api.End, Text: "beyond"}}
	before := slices.Clone(room)
	for size := range room {
		got := Join(room[:size])
		if strings.Contains(got, "beyond") != (size > 4) {
			t.Error(size, got)
		}
		if !slices.Equal(room, before) {
			t.Fatal(size, room)
		}
	}
	l := slices.Clone(room[:4])
	joined := Join(l)
	clear(l)
	if joined != "a 4" {
		t.Error(joined)
	}
	bytes := []byte("var x; 12")
	tokens, _, _ := Cut(string(bytes))
	clear(bytes)
	if Join(tokens) != "var x ; 12" {
		t.Error(tokens)
	}
}

func TestP3Results(t *testing.T) {
	for _, s := range []string{"", "x", "a = b + 1; # c", "1 2 3 4 5 6 7 8"} {
		first, _, _ := Cut(s)
		second, _, _ := Cut(s)
		want := slices.Clone(second)
		first = first[:cap(first)]
		clear(first)
		if !slices.Equal(second, want) {
			t.Error(s, second)
		}
		third, _, _ := Cut(s)
		if !slices.Equal(third, want) {
			t.Error(s, third)
		}
	}
}

// TestP4SameAnswers: the calls in between are not to be seen, whatever they were given.
func TestP4SameAnswers(t *testing.T) {
	texts := []string{"", "x <= 1", "a $", "007", "var v int;", strings.Repeat("(", 20001)}
	for _, s := range texts {
		want, wantAt, wantE := Cut(s)
		for _, between := range texts {
			l, _, _ := Cut(between)
			Join(l)
			Kept(between)
			Ident(between)
			Place(between, len(s))
			if l, at, e := Cut(s); !slices.Equal(l, want) || at != wantAt || e != wantE {
				t.Errorf("%.50q after %.50q: %v, %d, %v", s, between, l, at, e)
			}
		}
	}
}

// TestWaysTogether: what the closure takes together, from each offset on.
func TestWaysTogether(t *testing.T) {
	for _, c := range []struct {
		s    string
		ends []int
	}{
		{" \t\nx", []int{3, 3, 3, 4}},
		{"#a\n", []int{2, 2, 3}},
		{"1a=", []int{2, 2, 3}},
		{"<==", []int{2, 3, 3}},
		{"|||", []int{2, 3, 3}},
		{"|=$$", []int{1, 2, 3, 4}},
		{"\xff\xfe", []int{1, 2}},
	} {
		for start, want := range c.ends {
			if got := pieceEnd(c.s, start); got != want {
				t.Errorf("%q %d: %d, not %d", c.s, start, got, want)
			}
		}
	}
}
