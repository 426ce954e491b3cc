package value

import (
	"math"
	"slices"
	"testing"

	"runnel/api"
)

func wantBinary(t *testing.T, sign string, a, b, want Value, wantE int, wantOK bool) {
	t.Helper()
	if v, e, ok := Binary(sign, a, b); v != want || e != wantE || ok != wantOK {
		t.Errorf("%v %s %v is %v, %d, %v, not %v, %d, %v", a, sign, b, v, e, ok, want, wantE, wantOK)
	}
}

func wantUnary(t *testing.T, sign string, a, want Value, wantOK bool) {
	t.Helper()
	if v, ok := Unary(sign, a); v != want || ok != wantOK {
		t.Errorf("%s %v is %v, %v, not %v, %v", sign, a, v, ok, want, wantOK)
	}
}

// TestV1Examples are those of the chapter.
func TestV1Examples(t *testing.T) {
	wantBinary(t, "/", num(7), num(-2), num(-3), 0, true)
	wantBinary(t, "%", num(7), num(-2), num(1), 0, true)
	wantBinary(t, "/", num(1), num(0), Value{}, Nought, true)
	wantBinary(t, "&&", is(1), is(0), is(0), 0, true)
}

// TestNumbers: what the document gives exceptions and types for numbers.
func TestNumbers(t *testing.T) {
	if got := []int{Nought, Range, Missing, Size, Unset}; !slices.Equal(got, []int{1, 2, 3, 4, 5}) {
		t.Error(got)
	}
	if got := []int{api.Int, api.Bool, api.Arr, api.Fun}; !slices.Equal(got, []int{1, 2, 3, 4}) {
		t.Error(got)
	}
}

// TestV1Zero: a value of each kind, and of numbers that are none.
func TestV1Zero(t *testing.T) {
	for _, kind := range kinds {
		if got := Zero(kind); got.Kind != kind || got.N != 0 {
			t.Error(kind, got)
		}
	}
	if Zero(api.Int) != num(0) || Zero(api.Bool) != is(0) || Zero(api.Arr) != arr(0) || Zero(api.Fun) != fun(0) || Zero(api.None) != (Value{}) {
		t.Error("another zero")
	}
}

// TestV1Calculation: small numbers, and those at which an Int wraps around, written out.
func TestV1Calculation(t *testing.T) {
	const least, most = math.MinInt, math.MaxInt
	for _, c := range []struct {
		sign       string
		a, b, want int
	}{
		{"+", 2, 3, 5}, {"+", -2, 3, 1}, {"+", most, 1, least}, {"+", least, -1, most}, {"+", most, most, -2}, {"+", least, least, 0}, {"+", least, most, -1},
		{"-", 2, 3, -1}, {"-", 3, 2, 1}, {"-", least, 1, most}, {"-", most, -1, least}, {"-", 0, least, least}, {"-", least, least, 0}, {"-", -1, least, most},
		{"*", 2, 3, 6}, {"*", -2, 3, -6}, {"*", 0, least, 0}, {"*", least, -1, least}, {"*", most, 2, -2}, {"*", most, most, 1}, {"*", least, least, 0}, {"*", 1 << 32, 1 << 32, 0}, {"*", 1 << 32, 1 << 31, least},
		{"/", 7, 2, 3}, {"/", -7, 2, -3}, {"/", 7, -2, -3}, {"/", -7, -2, 3}, {"/", 0, 5, 0}, {"/", 1, 2, 0}, {"/", -1, 2, 0}, {"/", least, -1, least}, {"/", least, 1, least}, {"/", least, least, 1}, {"/", most, least, 0}, {"/", least, most, -1}, {"/", most, -1, -most},
		{"%", 7, 2, 1}, {"%", -7, 2, -1}, {"%", 7, -2, 1}, {"%", -7, -2, -1}, {"%", 0, 5, 0}, {"%", 1, 2, 1}, {"%", -1, 2, -1}, {"%", least, -1, 0}, {"%", least, 1, 0}, {"%", least, least, 0}, {"%", most, least, most}, {"%", least, most, -1}, {"%", 6, 3, 0},
	} {
		wantBinary(t, c.sign, num(c.a), num(c.b), num(c.want), 0, true)
	}
}

// TestV1Nought: 0 as the divisor, of any number.
func TestV1Nought(t *testing.T) {
	for _, n := range numbers {
		for _, sign := range []string{"/", "%"} {
			wantBinary(t, sign, num(n), num(0), Value{}, Nought, true)
		}
		for _, sign := range []string{"+", "-"} {
			wantBinary(t, sign, num(n), num(0), num(n), 0, true)
		}
		wantBinary(t, "*", num(n), num(0), num(0), 0, true)
	}
	// What divides nothing raises nothing.
	for _, other := range []Value{is(0), is(1), arr(0), fun(0), {}, {5, 0}} {
		for _, sign := range []string{"/", "%"} {
			wantBinary(t, sign, num(1), other, Value{}, 0, false)
			wantBinary(t, sign, other, num(0), Value{}, 0, false)
			wantBinary(t, sign, other, other, Value{}, 0, false)
		}
	}
}

// TestV1Comparison: of Ints that are less, equal and greater, the farthest ones too.
func TestV1Comparison(t *testing.T) {
	if !slices.IsSorted(numbers) {
		t.Fatal(numbers)
	}
	for _, c := range []struct {
		sign                 string
		less, equal, greater int
	}{{"==", 0, 1, 0}, {"!=", 1, 0, 1}, {"<", 1, 0, 0}, {"<=", 1, 1, 0}, {">", 0, 0, 1}, {">=", 0, 1, 1}} {
		for i, n := range numbers {
			wantBinary(t, c.sign, num(n), num(n), is(c.equal), 0, true)
			for _, more := range numbers[i+1:] {
				wantBinary(t, c.sign, num(n), num(more), is(c.less), 0, true)
				wantBinary(t, c.sign, num(more), num(n), is(c.greater), 0, true)
			}
		}
	}
}

// TestV1Bools: each sign of Bools at each two of them, where any N but 0 counts as 1, and the answer's N is 0 or 1.
func TestV1Bools(t *testing.T) {
	for _, c := range []struct {
		sign           string
		oo, oi, io, ii int
	}{{"&&", 0, 0, 0, 1}, {"||", 0, 1, 1, 1}, {"==", 1, 0, 0, 1}, {"!=", 0, 1, 1, 0}} {
		wantBinary(t, c.sign, is(0), is(0), is(c.oo), 0, true)
		for _, a := range numbers {
			if a == 0 {
				continue
			}
			wantBinary(t, c.sign, is(0), is(a), is(c.oi), 0, true)
			wantBinary(t, c.sign, is(a), is(0), is(c.io), 0, true)
			for _, b := range numbers {
				if b != 0 {
					wantBinary(t, c.sign, is(a), is(b), is(c.ii), 0, true)
				}
			}
		}
	}
	for _, sign := range []string{"+", "-", "*", "/", "%", "<", "<=", ">", ">=", "!"} {
		for _, a := range []int{0, 1, 2} {
			for _, b := range []int{0, 1, 2} {
				wantBinary(t, sign, is(a), is(b), Value{}, 0, false)
			}
		}
	}
}

// TestV1Unary: both signs at each number, and at values that they don't take.
func TestV1Unary(t *testing.T) {
	wantUnary(t, "-", num(5), num(-5), true)
	wantUnary(t, "-", num(-5), num(5), true)
	wantUnary(t, "-", num(0), num(0), true)
	wantUnary(t, "-", num(math.MinInt), num(math.MinInt), true)
	wantUnary(t, "-", num(math.MaxInt), num(math.MinInt+1), true)
	wantUnary(t, "-", num(math.MinInt+1), num(math.MaxInt), true)
	wantUnary(t, "!", is(0), is(1), true)
	for _, n := range numbers {
		if n != 0 {
			wantUnary(t, "!", is(n), is(0), true)
		}
		wantUnary(t, "-", is(n), Value{}, false)
		wantUnary(t, "!", num(n), Value{}, false)
		for _, kind := range kinds {
			if kind != api.Int && kind != api.Bool {
				wantUnary(t, "-", Value{kind, n}, Value{}, false)
				wantUnary(t, "!", Value{kind, n}, Value{}, false)
			}
		}
	}
}

// TestV1EachSignAtEachValue: all signs, and texts that are none, at values of all kinds, against the model.
func TestV1EachSignAtEachValue(t *testing.T) {
	made, raised, refused := 0, 0, 0
	list := values()
	for _, sign := range append(slices.Clone(signs), noSigns...) {
		for _, a := range list {
			want, wantOK := modelUnary(sign, a)
			wantUnary(t, sign, a, want, wantOK)
			for _, b := range list {
				want, wantE, wantOK := modelBinary(sign, a, b)
				v, e, ok := Binary(sign, a, b)
				if v != want || e != wantE || ok != wantOK {
					t.Fatalf("%v %q %v is %v, %d, %v, not %v, %d, %v", a, sign, b, v, e, ok, want, wantE, wantOK)
				}
				switch {
				case e != 0:
					raised++
				case ok:
					made++
				default:
					refused++
				}
			}
		}
	}
	size := len(numbers)
	if raised != 2*size || made != (5+6+4)*size*size-2*size || refused == 0 {
		t.Error(made, raised, refused)
	}
}

// TestV1NoSigns: texts that are no operators make nothing of anything.
func TestV1NoSigns(t *testing.T) {
	for _, sign := range noSigns {
		for _, v := range []Value{num(1), num(0), is(1), is(0), arr(1), fun(1), {}} {
			wantUnary(t, sign, v, Value{}, false)
			wantBinary(t, sign, v, v, Value{}, 0, false)
		}
	}
	for _, sign := range signs {
		if sign != "-" && sign != "!" {
			wantUnary(t, sign, num(1), Value{}, false)
			wantUnary(t, sign, is(1), Value{}, false)
		}
	}
	wantBinary(t, "!", num(1), num(1), Value{}, 0, false)
	wantBinary(t, "&&", num(1), num(1), Value{}, 0, false)
	wantBinary(t, "||", num(0), num(0), Value{}, 0, false)
}

// TestV1OtherKinds: arrays and procedures are not even compared, nor are values of two kinds.
func TestV1OtherKinds(t *testing.T) {
	for _, sign := range signs {
		for _, kind := range kinds {
			for _, other := range kinds {
				if kind == other && (kind == api.Int || kind == api.Bool) {
					continue
				}
				for _, n := range []int{-1, 0, 1} {
					wantBinary(t, sign, Value{kind, n}, Value{other, n}, Value{}, 0, false)
				}
			}
		}
	}
}

// TestV5Division: (a / b) * b + a % b is a, the least Int by -1 too; and a % b is nearer to 0 than b, on the side of a.
func TestV5Division(t *testing.T) {
	made := func(sign string, a, b int) int {
		v, e, ok := Binary(sign, num(a), num(b))
		if e != 0 || !ok || v.Kind != api.Int {
			t.Fatal(a, sign, b, v, e, ok)
		}
		return v.N
	}
	for _, a := range numbers {
		for _, b := range numbers {
			if b == 0 {
				continue
			}
			rest := made("%", a, b)
			if got := made("+", made("*", made("/", a, b), b), rest); got != a {
				t.Errorf("%d by %d comes back as %d", a, b, got)
			}
			// The magnitudes as unsigned numbers, since that of the least Int is no Int.
			if abs(rest) >= abs(b) || rest != 0 && (rest < 0) != (a < 0) {
				t.Errorf("%d by %d leaves %d", a, b, rest)
			}
		}
	}
}

func abs(n int) uint {
	if n < 0 {
		return -uint(n)
	}
	return uint(n)
}
