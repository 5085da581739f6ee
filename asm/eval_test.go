package asm_test

import (
	"fmt"
	"math"
	"math/rand"
	"strings"
	"testing"

	"arcade/api"
	"arcade/asm"
)

type evalCase struct {
	text  string
	value int
	place int
	e     api.Errno
}

var evalNames = []api.Name{
	{Name: "x", Value: 7}, {Name: "x", Value: 8}, {Name: "y", Value: -3}, {Name: "high1", Value: 5}, {Name: "n", Value: 11}, {Name: "s", Value: 12}, {Name: "w", Value: 13},
	{Name: "abcdefghijklmnop", Value: 16}, {Name: "A", Value: 65}, {Name: "_", Value: 95}, {Name: "nop", Value: 1}, {Name: "x.y", Value: 2}, {Name: ".y", Value: 3}, {Name: "", Value: 4},
	{Name: "most", Value: math.MaxInt32}, {Name: "least", Value: math.MinInt32}, {Name: "over", Value: math.MaxInt32 + 1}, {Name: "under", Value: math.MinInt32 - 1}, {Name: "far", Value: math.MaxInt}, {Name: "back", Value: math.MinInt},
}

func checkEval(t *testing.T, promise string, cases []evalCase) {
	t.Helper()
	for _, c := range cases {
		if v, at, e := asm.Eval(c.text, evalNames, 100); v != c.value || at != c.place || e != c.e {
			t.Errorf("%s: Eval(%q) = %d, %d, %d, want %d, %d, %d", promise, c.text, v, at, e, c.value, c.place, c.e)
		}
	}
}

func TestP22EvalValues(t *testing.T) {
	checkEval(t, "P2.2", []evalCase{
		{"1 + 2 * -3", -5, 0, 0}, {"7 / -2 % 2", -1, 0, 0}, {"\t 5 \t", 5, 0, 0},
		{"1|6^3&5", 1 | (6 ^ (3 & 5)), 0, 0}, {"1 | 2 ^ 3", 1, 0, 0}, {"6 & 3 ^ 1", 3, 0, 0}, {"7 & 1 << 1", 2, 0, 0}, {"1 << 1 + 2", 8, 0, 0}, {"2 + 3 * 4", 14, 0, 0},
		{"10 - 4 - 3", 3, 0, 0}, {"100 / 5 / 2", 10, 0, 0}, {"100 / 5 * 2", 40, 0, 0}, {"100 % 30 % 4", 2, 0, 0}, {"1 << 2 << 3", 32, 0, 0}, {"256 >> 2 << 1", 128, 0, 0}, {"2 * (3 + 4)", 14, 0, 0},
		{"7 / 2", 3, 0, 0}, {"-7 / 2", -3, 0, 0}, {"7 / -2", -3, 0, 0}, {"-7 / -2", 3, 0, 0}, {"7 % -2", 1, 0, 0}, {"-7 % 2", -1, 0, 0}, {"-7 % -2", -1, 0, 0},
		{"-7 >> 1", -4, 0, 0}, {"-1 >> 31", -1, 0, 0}, {"most >> 31", 0, 0, 0}, {"-1 << 31", math.MinInt32, 0, 0}, {"0 << 31", 0, 0, 0}, {"1 << 30", 1 << 30, 0, 0}, {"5 >> 0", 5, 0, 0},
		{"~0", -1, 0, 0}, {"~ - ~5", ^(-(^5)), 0, 0}, {"---5", -5, 0, 0}, {"-~-~5", 7, 0, 0}, {"- 5 - - 5", 0, 0, 0}, {"-5 & 255", 251, 0, 0}, {"-1 ^ 5", -6, 0, 0}, {"-256 | 3", -253, 0, 0},
		{"$fF", 255, 0, 0}, {"$A+$F", 25, 0, 0}, {"$abcdef - $ABCDEF", 0, 0, 0}, {"$12345678", 0x12345678, 0, 0}, {"$90", 144, 0, 0}, {"1234567890", 1234567890, 0, 0}, {"$0", 0, 0, 0}, {"%0101", 5, 0, 0}, {"7 %%11", 1, 0, 0}, {"7%%11%%10", 1, 0, 0}, {"7 % %11", 1, 0, 0}, {"0007", 7, 0, 0},
		{"'a'", 97, 0, 0}, {"' '", 32, 0, 0}, {"'\"'", 34, 0, 0}, {"';'", 59, 0, 0}, {"'\t'", 9, 0, 0}, {"'\x00'", 0, 0, 0}, {"'\xff'", 255, 0, 0}, {"'\xc3'-'\x80'", 0xc3 - 0x80, 0, 0},
		{"@", 100, 0, 0}, {"@-@", 0, 0, 0}, {"x", 7, 0, 0}, {"x*y", -21, 0, 0}, {"A+_", 160, 0, 0}, {"n+s+w", 36, 0, 0}, {"high1", 5, 0, 0}, {"abcdefghijklmnop", 16, 0, 0},
		{"high($1234)", 0x12, 0, 0}, {"low($1234)", 0x34, 0, 0}, {"high ( -1 )", 255, 0, 0}, {"low(-1)", 255, 0, 0}, {"high(-257)", 254, 0, 0}, {"high(most)", 255, 0, 0}, {"high(least)", 0, 0, 0}, {"-high(256)", -1, 0, 0}, {"high(low(300)*256)", 44, 0, 0},
		{"2147483647", math.MaxInt32, 0, 0}, {"-2147483647-1", math.MinInt32, 0, 0}, {"$7fffffff", math.MaxInt32, 0, 0}, {"most", math.MaxInt32, 0, 0}, {"least", math.MinInt32, 0, 0}, {"least % -1", 0, 0, 0}, {"~most", math.MinInt32, 0, 0}, {"46340*46340", 46340 * 46340, 0, 0},
		{strings.Repeat("0", 199) + "1", 1, 0, 0}, {strings.Repeat("-", 199) + "1", -1, 0, 0}, {strings.Repeat("(", 20) + "1" + strings.Repeat(")", 20), 1, 0, 0},
		{strings.Repeat("(", 19) + "low(300" + strings.Repeat(")", 20), 44, 0, 0}, {"(((1)))+((2))", 3, 0, 0},
		{strings.Repeat("(1)+", 30) + "0", 30, 0, 0},
	})
}

func TestP22EvalText(t *testing.T) {
	twenty := strings.Repeat("(", 20)
	checkEval(t, "P2.2", []evalCase{
		{"", 0, 0, 23}, {" ", 0, 1, 23}, {"1 2", 0, 2, 23}, {"1 x", 0, 2, 23}, {"x 1", 0, 2, 23}, {"1x", 0, 1, 23}, {"1_", 0, 1, 23}, {"x y", 0, 2, 23}, {"1(", 0, 1, 23}, {"x(1)", 0, 1, 23}, {"@@", 0, 1, 23}, {"(1)(2)", 0, 3, 23},
		{"$", 0, 1, 23}, {"$g", 0, 1, 23}, {"$ 1", 0, 1, 23}, {"$1g", 0, 2, 23}, {"%", 0, 1, 23}, {"%2", 0, 1, 23}, {"%12", 0, 2, 23}, {"% 1", 0, 1, 23}, {"0x10", 0, 1, 23}, {"12ab", 0, 2, 23}, {"1%", 0, 2, 23}, {"1%%", 0, 3, 23}, {"1%%2", 0, 3, 23},
		{"'", 0, 1, 23}, {"''", 0, 1, 23}, {"'''", 0, 1, 23}, {"'a", 0, 2, 23}, {"'ab'", 0, 2, 23}, {"'\n'", 0, 1, 23}, {"'é'", 0, 2, 23}, {"' ", 0, 2, 23}, {"\"a\"", 0, 0, 23},
		{"+1", 0, 0, 23}, {"1+", 0, 2, 23}, {"1+ ", 0, 3, 23}, {"1++1", 0, 2, 23}, {"1*/1", 0, 2, 23}, {"1<2", 0, 2, 23}, {"1< <2", 0, 2, 23}, {"1<", 0, 2, 23}, {"1<>2", 0, 2, 23}, {"1>>>2", 0, 3, 23}, {"1>", 0, 2, 23}, {"1~2", 0, 1, 23}, {"-", 0, 1, 23}, {"~ ", 0, 2, 23}, {"1=2", 0, 1, 23}, {"1!", 0, 1, 23}, {"1,2", 0, 1, 23}, {"[1]", 0, 0, 23}, {"#", 0, 0, 23},
		{"(", 0, 1, 23}, {"(1", 0, 2, 23}, {"(1 ", 0, 3, 23}, {"()", 0, 1, 23}, {"1)", 0, 1, 23}, {"(1))", 0, 3, 23}, {"(1 2)", 0, 3, 23}, {"(1]", 0, 2, 23},
		{"nop", 0, 3, 23}, {"nop+1", 0, 3, 23}, {"nop ", 0, 3, 23}, {"nop.x", 0, 3, 23}, {"1+hl", 0, 4, 23}, {"1+a+", 0, 3, 23}, {"equ", 0, 3, 23}, {"org 1", 0, 3, 23}, {"e", 0, 1, 23}, {"e(", 0, 1, 23},
		{"high", 0, 4, 23}, {"high ", 0, 5, 23}, {"high 3", 0, 5, 23}, {"high+1", 0, 4, 23}, {"low)", 0, 3, 23}, {"high(", 0, 5, 23}, {"high()", 0, 5, 23}, {"high(1", 0, 6, 23}, {"high high(1)", 0, 5, 23},
		{"x.y", 0, 1, 23}, {".y", 0, 0, 23}, {"1+.y", 0, 2, 23}, {"x .y", 0, 2, 23}, {"x.", 0, 1, 23},
		{"abcdefghijklmnopq", 0, 16, 23}, {"1+abcdefghijklmnop1", 0, 18, 23}, {"abcdefghijklmnop_+1", 0, 16, 23}, {"abcdefghijklmnop.", 0, 16, 23},
		{twenty + "(1", 0, 20, 23}, {twenty + "high(1", 0, 24, 23}, {twenty + " low (", 0, 25, 23}, {twenty + "1" + strings.Repeat(")", 19), 0, 40, 23}, {twenty + "nop", 0, 23, 23}, {twenty, 0, 20, 23}, {twenty + "highx(", 0, 25, 23},
		{"1\n", 0, 1, 23}, {"\n1", 0, 0, 23}, {"1\r", 0, 1, 23}, {"1\v2", 0, 1, 23}, {"é", 0, 0, 23}, {"1é", 0, 1, 23}, {"xé", 0, 1, 23}, {"1\x00", 0, 1, 23}, {"\xff", 0, 0, 23}, {"1 ;2", 0, 2, 23}, {"1\u00a0", 0, 1, 23}, {"٣", 0, 0, 23}, {"1٣", 0, 1, 23},
	})
}

func TestP22EvalNumbers(t *testing.T) {
	checkEval(t, "P2.2", []evalCase{
		{"zz", 0, 0, 24}, {"1 + zz", 0, 4, 24}, {"X", 0, 0, 24}, {"high(zz)", 0, 5, 24}, {"a1", 0, 0, 24}, {"NOP", 0, 0, 24},
		{"2147483648", 0, 0, 26}, {"-2147483648", 0, 1, 26}, {"$80000000", 0, 0, 26}, {"%1" + strings.Repeat("0", 31), 0, 0, 26}, {strings.Repeat("9", 200), 0, 0, 26}, {"$1" + strings.Repeat("0", 16), 0, 0, 26}, {"$1" + strings.Repeat("0", 150), 0, 0, 26}, {"18446744073709551617", 0, 0, 26},
		{"1 << 31", 0, 2, 26}, {"1<<32", 0, 1, 26}, {"0<<32", 0, 1, 26}, {"1<<-1", 0, 1, 26}, {"1>>-1", 0, 1, 26}, {"0 >> 32", 0, 2, 26}, {"-1<<32", 0, 2, 26}, {"3<<30", 0, 1, 26}, {"-2<<31", 0, 2, 26}, {"1<<most", 0, 1, 26}, {"1<<least", 0, 1, 26},
		{"1/0", 0, 1, 26}, {"1%0", 0, 1, 26}, {"0/0", 0, 1, 26}, {"least/-1", 0, 5, 26}, {"-least", 0, 0, 26}, {"1--least", 0, 2, 26}, {"-(-2147483647-1)", 0, 0, 26}, {"~(-least)", 0, 2, 26},
		{"most+1", 0, 4, 26}, {"least-1", 0, 5, 26}, {"most*most", 0, 4, 26}, {"least*least", 0, 5, 26}, {"65536*32768", 0, 5, 26}, {"most+1-1", 0, 4, 26}, {"most - 1 + 2", 0, 9, 26},
		{"over", 0, 0, 26}, {"1+under", 0, 2, 26}, {"far", 0, 0, 26}, {"low(back)", 0, 4, 26}, {"0*over", 0, 2, 26},
	})
	for _, here := range []int{math.MaxInt32 + 1, math.MinInt32 - 1, math.MaxInt, math.MinInt} {
		if v, at, e := asm.Eval("2 + @", nil, here); v != 0 || at != 4 || e != 26 {
			t.Errorf("P2.2: Eval of @ at %d = %d, %d, %d", here, v, at, e)
		}
		if v, at, e := asm.Eval("2", nil, here); v != 2 || at != 0 || e != 0 {
			t.Errorf("P2.2: Eval of 2 at %d = %d, %d, %d", here, v, at, e)
		}
	}
	for _, here := range []int{math.MaxInt32, math.MinInt32, 0, -1} {
		if v, at, e := asm.Eval("@", nil, here); v != here || at != 0 || e != 0 {
			t.Errorf("P2.2: Eval of @ at %d = %d, %d, %d", here, v, at, e)
		}
	}
}

func TestP21EvalOrder(t *testing.T) {
	checkEval(t, "P2.1", []evalCase{
		{strings.Repeat(" ", 199) + "1", 1, 0, 0}, {strings.Repeat(" ", 200), 0, 200, 23}, {strings.Repeat(" ", 200) + "1", 0, 0, 22}, {strings.Repeat("#", 201), 0, 0, 22}, {strings.Repeat("é", 101), 0, 0, 22}, {strings.Repeat("é", 100), 0, 0, 23},
		{"1/0+zz", 0, 1, 26}, {"zz+1/0", 0, 0, 24}, {"zz/0", 0, 0, 24}, {"1/0 )", 0, 4, 23}, {"zz +", 0, 4, 23}, {"2147483648 #", 0, 11, 23},
		{"(1+zz)*(1/0)", 0, 3, 24}, {"(1/0)*(1+zz)", 0, 2, 26}, {"1 + (2 / 0) + zz", 0, 7, 26}, {"1<<99+zz", 0, 6, 24}, {"zz*2147483648", 0, 0, 24}, {"2147483648*zz", 0, 0, 26}, {"-zz/0", 0, 1, 24}, {"over+zz", 0, 0, 26}, {"zz+over", 0, 0, 24},
		{"most+1*zz", 0, 7, 24}, {"most*2+zz", 0, 4, 26}, {"1/(1/0)", 0, 4, 26}, {"1|zz&1/0", 0, 2, 24}, {"-(1/0)/0", 0, 3, 26},
	})
}

// wantPlace goes through a text byte by byte, and tells the place of the first one with which no expression goes on, and whether there is none.
func wantPlace(text string) (int, bool) {
	state, deep, from := "operand", 0, 0
	for i := 0; i < len(text); i++ {
		c := text[i]
		if wordByte(c) && c > '9' && state == "operand" {
			state, from = "word", i
			continue
		}
		if state == "word" {
			if wordByte(c) && i-from < 16 {
				continue
			} else if wordByte(c) {
				return i, false
			}
			switch word := text[from:i]; {
			case word == "high" || word == "low":
				state = "part"
			case isReserved(word):
				return i, false
			default:
				state = "behind"
			}
		}
		next := follow(state, c, &deep)
		if next == "" {
			return i, false
		}
		state = next
	}
	if state == "word" && isReserved(text[from:]) {
		return len(text), false
	}
	return len(text), deep == 0 && strings.Contains(" word decimal hex binary behind ", " "+state+" ")
}

func wordByte(c byte) bool {
	return c >= 'a' && c <= 'z' || c >= 'A' && c <= 'Z' || c == '_' || c >= '0' && c <= '9'
}

// follow is the state behind a byte that is not of a word; "" if there is none.
func follow(state string, c byte, deep *int) string {
	within := func(set string) bool { return strings.IndexByte(set, c) >= 0 }
	blank := within(" \t")
	switch state {
	case "operand", "part":
		switch {
		case blank:
			return state
		case c == '(' && *deep < 20:
			*deep++
			return "operand"
		case state == "part":
			return ""
		case within("-~"):
			return state
		case within("0123456789"):
			return "decimal"
		}
		return map[byte]string{'$': "hex1", '%': "binary1", '\'': "quoted", '@': "behind"}[c]
	case "hex1", "hex":
		if within("0123456789abcdefABCDEF") {
			return "hex"
		}
	case "binary1", "binary":
		if within("01") {
			return "binary"
		}
	case "decimal":
		if within("0123456789") {
			return state
		}
	case "quoted":
		if within("\n'") {
			return ""
		}
		return "quote"
	case "quote":
		if c == '\'' {
			return "behind"
		}
		return ""
	case "<", ">":
		if within(state) {
			return "operand"
		}
		return ""
	}
	switch {
	case state == "hex1" || state == "binary1":
		return ""
	case blank:
		return "behind"
	case c == ')' && *deep > 0:
		*deep--
		return "behind"
	case within("<>"):
		return string(c)
	case within("|^&+-*/%"):
		return "operand"
	}
	return ""
}

// wantEval is Eval of an ASCII text, in a second way.
func wantEval(text string, names []api.Name, here int) (int, int, api.Errno) {
	if place, ok := wantPlace(text); !ok {
		return 0, place, 23
	}
	v, wrong := worth(tokens(text), func(name string) (int, bool) {
		for i := range names {
			if names[i].Name == name {
				return names[i].Value, true
			}
		}
		return 0, false
	}, here)
	if wrong != nil {
		return 0, wrong.at, wrong.why
	}
	return int(v.Int64()), 0, 0
}

func compareEval(t *testing.T, text string) {
	t.Helper()
	v, at, e := asm.Eval(text, evalNames, 100)
	if w, p, f := wantEval(text, evalNames, 100); v != w || at != p || e != f {
		t.Fatalf("P2.2: Eval(%q) = %d, %d, %d, want %d, %d, %d", text, v, at, e, w, p, f)
	}
}

// TestP22EvalShort has all texts of up to five of these signs.
func TestP22EvalShort(t *testing.T) {
	t.Parallel()
	signs := []string{"1", "x", "$", "%", "'", "(", ")", "-", "~", "<", "*", " ", ".", "low"}
	var grow func(text string, left int)
	grow = func(text string, left int) {
		compareEval(t, text)
		if left > 0 {
			for _, s := range signs {
				grow(text+s, left-1)
			}
		}
	}
	grow("", 5)
}

func TestP22EvalRandom(t *testing.T) {
	t.Parallel()
	r := rand.New(rand.NewSource(4))
	soup := strings.Fields("1 0 2 31 32 65535 2147483647 2147483648 $f $80 %11 % 'a' ' x y zz most least over high( low( high nop hl n @ ( ) ( ) - ~ | ^ & << >> < > + - * / % _ . abcdefghijklmnop # \"")
	for range 100000 {
		text := ""
		for range 1 + r.Intn(12) {
			text += soup[r.Intn(len(soup))]
			if r.Intn(6) == 0 {
				text += []string{" ", "\t", "  "}[r.Intn(3)]
			}
		}
		compareEval(t, text)
	}
	for range 60000 {
		text := someExpression(r, 4)
		if len(text) <= 200 {
			compareEval(t, text)
		}
		if i := r.Intn(len(text)); len(text) <= 200 {
			compareEval(t, text[:i]+text[i+1:])
		}
	}
}

// someExpression draws one that is right as a text, and often as a number too.
func someExpression(r *rand.Rand, deep int) string {
	if deep == 0 || r.Intn(8) == 0 {
		return []string{"0", "1", "2", "3", "7", "31", "255", "$10", "$7fffffff", "%101", "'a'", "@", "x", "y", "most", "least", fmt.Sprint(r.Intn(1 << 20))}[r.Intn(17)]
	}
	blank := []string{"", "", " "}[r.Intn(3)]
	inner := someExpression(r, deep-1)
	switch r.Intn(6) {
	case 0:
		return "(" + blank + inner + ")"
	case 1:
		return "-" + blank + inner
	case 2:
		return []string{"~", "high", "low"}[r.Intn(3)] + blank + "(" + inner + ")"
	}
	sign := []string{"|", "^", "&", "<<", ">>", "+", "-", "*", "/", "%"}[r.Intn(10)]
	return inner + blank + sign + blank + someExpression(r, deep-1)
}
