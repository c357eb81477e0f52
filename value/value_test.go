package value_test

import (
	"math"
	"math/rand"
	"testing"

	"trefoil/api"
	"trefoil/lex"
	"trefoil/value"
)

const least, most = math.MinInt64, math.MaxInt64

// P18.1: numbers.
func TestNum(t *testing.T) {
	for i, c := range []struct {
		op      string
		a, b, n int64
		e       api.Errno
	}{
		{"+", 1, 2, 3, api.OK}, {"+", most, 1, least, api.OK}, {"-", 1, 2, -1, api.OK}, {"-", least, 1, most, api.OK}, {"*", -3, 4, -12, api.OK}, {"*", most, 2, -2, api.OK}, {"*", least, -1, least, api.OK},
		{"/", -7, 2, -3, api.OK}, {"/", 7, -2, -3, api.OK}, {"/", 7, 2, 3, api.OK}, {"/", -7, -2, 3, api.OK}, {"/", least, -1, least, api.OK}, {"/", 1, 0, 0, api.ErrZero}, {"/", 0, 0, 0, api.ErrZero}, {"/", 0, 5, 0, api.OK},
		{"=", 1, 1, 0, api.ErrArg}, {"<", 1, 2, 0, api.ErrArg}, {"", 1, 0, 0, api.ErrArg}, {"//", 1, 0, 0, api.ErrArg}, {"%", 7, 2, 0, api.ErrArg},
	} {
		if n, e := value.Num(c.op, c.a, c.b); n != c.n || e != c.e {
			t.Error(i, n, e)
		}
	}
	for i, c := range []struct {
		op   string
		a, b int64
		is   bool
		e    api.Errno
	}{{"=", 1, 1, true, api.OK}, {"=", 1, 2, false, api.OK}, {"<", 1, 2, true, api.OK}, {"<", 2, 2, false, api.OK}, {"<", least, most, true, api.OK}, {"<", 3, 2, false, api.OK}, {"+", 1, 1, false, api.ErrArg}, {"", 1, 1, false, api.ErrArg}, {"<=", 1, 1, false, api.ErrArg}} {
		if is, e := value.Test(c.op, c.a, c.b); is != c.is || e != c.e {
			t.Error(i, is, e)
		}
	}
}

// P18.2: texts.
func TestTexts(t *testing.T) {
	if value.Int(0) != "0" || value.Int(-5) != "-5" || value.Int(least) != "-9223372036854775808" || value.Int(most) != "9223372036854775807" || value.Bool(true) != "true" || value.Bool(false) != "false" || value.Pair("1", "true") != "(1, true)" || value.Pair("", "(a, b)") != "(, (a, b))" {
		t.Error("texts")
	}
	for _, s := range []string{"", "a", "\n\\\"", "\t\xff'", "\\n", "(* *)"} {
		if put, e := lex.Put(api.Token{Kind: api.Str, S: s}); value.Text(s) != put || e != api.OK {
			t.Errorf("%q", s)
		}
	}
	long := make([]byte, 200000)
	if len(value.Text(string(long))) != 200002 {
		t.Error("long")
	}
}

// P18.3: adding and taking away go back; a is the quotient times b and the remainder.
func TestLaws(t *testing.T) {
	r := rand.New(rand.NewSource(12))
	for range 20000 {
		a, b := int64(r.Uint64())>>r.Intn(64), int64(r.Uint64())>>r.Intn(64)
		sum, _ := value.Num("+", a, b)
		if back, e := value.Num("-", sum, b); back != a || e != api.OK {
			t.Fatal(a, b)
		}
		q, e := value.Num("/", a, b)
		if e != api.OK {
			if b != 0 || e != api.ErrZero {
				t.Fatal(a, b, e)
			}
			continue
		}
		p, _ := value.Num("*", q, b)
		rest, _ := value.Num("-", a, p)
		if b != -1 && (rest <= -abs(b) && b != least || rest >= abs(b) && b != least || rest < 0 && a > 0 || rest > 0 && a < 0) {
			t.Fatal(a, b, q, rest)
		}
	}
}

func abs(n int64) int64 {
	if n < 0 {
		return -n
	}
	return n
}
