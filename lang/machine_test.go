package lang_test

import (
	"strconv"
	"strings"
	"testing"

	"arcade/api"
)

// filled is a source of at most MaxLang bytes, with as many of one text as go in.
func filled(front, one, behind string) string {
	return front + strings.Repeat(one, (api.MaxLang-len(front)-len(behind))/len(one)) + behind
}

// An image has at most 32432 bytes, also of the longest sources, whatever they are full of; and it does what they mean.
func TestL2Longest(t *testing.T) {
	t.Parallel()
	globals := "var g;var a[3];fn f(){}fn h(x){return x;}"
	for _, one := range []string{
		"{}", "g=g;", "g=1;", "out 1;", "out g;", "f();", "h(g);", "return;", "return 1;", "a[0]=g;", "a[g]=1;", "g=a[0];", "if g{}", "if g{}else{}", "if 1{}else if g{}else{}", "while g{}", "while g{break;}", "if g{return;}", "print\"\";", "print\"x\";", "g=!g;", "g=-g;", "g=~~~~~~~~g;", "g=g+g;", "g=g&&g;", "g=g||g;", "g=g==g;", "g=g/1;", "g=g%1;", "g=in();", "g=left();", "g=h(h(h(h(h(h(h(h(h(1)))))))));", "a[a[a[a[a[a[a[a[a[0]]]]]]]]]=0;", "g=(((((((((g)))))))));",
	} {
		source := filled(globals+"fn main(){", one, "}")
		right(t, source)
		r := runs(t, source, nil, 100000)
		machineDoes(t, source, nil, r)
	}
	for _, one := range []string{"+g", "-1", "*g", "/1", "%g", "&&g", "||g", "|g", "^g", "&g", "==g", "<g", ">>g", "<<1", "+-g", "+a[0]", "+h(g)", "+f()", "-in()", "&&!f()", "||h(1)", "%a[1]"} {
		source := filled(globals+"fn main(){return g", one, ";}")
		right(t, source)
		machineDoes(t, source, nil, runs(t, source, nil, 100000))
	}
	// Variables of a function are farther to come by than globals.
	locals := "fn main(){var x=1;var y=2;"
	for _, one := range []string{"x=y;", "x=x+y;", "x=x&&y;", "{x=y;}", "if x{x=y;}", "while x{x=0;}", "x=y/x;"} {
		source := filled(locals, one, "return x;}")
		machineDoes(t, source, nil, runs(t, source, nil, 100000))
	}
	text := "fn main(){print\"" + strings.Repeat("z", 1000) + "\";return 1" + strings.Repeat("+1", 480) + ";}"
	machineDoes(t, text, nil, runs(t, text, nil, 100000))
	traps(t, filled("fn main(){@print\"", "z", "\";}"), 4)
}

// The greatest stack that there may be leaves all globals as they are: 16 functions run, each with all its variables and with all that waits in the deepest expression.
func TestL2DeepestStack(t *testing.T) {
	t.Parallel()
	signs := "1|2^3&4==5<6<<7+8*"
	variables, sum := "", ""
	for i := range 18 {
		variables += "var " + letters("v_", i) + "=p+" + strconv.Itoa(i) + ";"
		sum += "+" + letters("v_", i)
	}
	expression := strings.Repeat(signs+"g(1,2,3,4,5,", 8) + signs + "f(p-1,2,3,4,5,6)" + strings.Repeat(")", 8)
	source := "var a[256];var b[256];fn g(p,q,r,s,t,u){return p+q+r+s+t+u;}" +
		"fn f(p,q,r,s,t,u){if !p{return 1;}" + variables + "a[p]=" + expression + ";out q+r*2+s*4+t*8+u*16" + sum + ";return a[p]+p;}" +
		"fn main(){var i=0;while i<256{a[i]=i*7;b[i]=~i;i=i+1;}out f(14,2,3,4,5,6);i=15;while i<256{if a[i]!=i*7{return i+1;}i=i+1;}i=0;while i<256{if b[i]!=~i{return i+300;}i=i+1;}return 7;}"
	if len(source) > api.MaxLang {
		t.Fatalf("%d bytes", len(source))
	}
	r := holds(t, source, nil)
	if r.Kind != api.LangDone || r.Value != 7 || len(r.Out) != 15 {
		t.Errorf("L2: %v", r)
	}
	// One call more is told as it is, and then, too, all is as it was when it was told.
	deeper := strings.Replace(source, "f(14,", "f(15,", 1)
	r = holds(t, deeper, nil)
	if r.Kind != api.LangTrap || r.Value != api.TrapDeep || r.Place != strings.Index(deeper, "f(p-1") {
		t.Errorf("L2: %v", r)
	}
}

// Programs that do as many steps as may be are done by the machine in the cycles that it has.
func TestL2ManySteps(t *testing.T) {
	t.Parallel()
	for _, c := range []struct{ name, body string }{
		{"empty rounds", "while i<12000{i=i+1;}"},
		{"divisions", "while i<4500{i=i+1;x=65535/(i/i)%65535/1%7;}"},
		{"products", "while i<5000{i=i+1;x=x*65535*i+i;}"},
		{"shifts", "while i<5000{i=i+1;x=(1<<15)>>15<<14>>x;}"},
		{"elements", "while i<4500{a[i%200]=a[(i+1)%200]+i;i=i+1;}"},
		{"calls", "while i<5000{i=f(i,x);}"},
		{"calls within calls", "while i<1200{i=f(f(f(i,1)-1,f(x,2)-x),0);}"},
		{"shortened", "while i<5000{x=i&&!i||i&&~i;i=i+1;}"},
		{"blocks", "while i<5000{{{{{if i{if 1{i=i+1;}}else if 0{}else{i=1;}}}}}}"},
	} {
		t.Run(c.name, func(t *testing.T) {
			t.Parallel()
			source := "var a[200];fn f(p,q){return p+1+q-q;}fn main(){var i=0;var x=0;" + c.body + "return x;}"
			r := runs(t, source, nil, 100000)
			if r.Kind != api.LangDone || r.Steps < 25000 {
				t.Fatalf("%s: %v", c.name, r)
			}
			if want := modelRun(source, nil, 100000); !sameRun(r, want) {
				t.Errorf("L1: Run(%q) = %v, want %v", source, r, want)
			}
			machineDoes(t, source, nil, r)
		})
	}
}

// Up to its end nothing tells that a program has ended, and then what is told is told at once; what is put out comes before.
func TestL2Told(t *testing.T) {
	t.Parallel()
	for _, c := range []struct {
		source string
		in     []int
	}{
		{"fn main(){print\"abcdefghij\";out 1;return $1234;}", nil},
		{"fn main(){var i=0;while i<300{out i;i=i+1;}return 1/(i-300);}", nil},
		{"var a[2];fn main(){out 1;a[1]=2;out a[2];}", nil},
		{"fn main(){while left(){out in();}return $ff00;}", []int{1, 2, 3}},
	} {
		r := runs(t, c.source, c.in, 100000)
		b := machine(t, c.source, c.in)
		many := 0
		for cycle := 0; b.Peek(0xc000) == 0; cycle++ {
			if wordAt(b, 0xc001) != 0 && cycle == 0 || cycle > 20000+1500*r.Steps {
				t.Fatalf("L2: the machine of %q, in cycle %d", c.source, cycle)
			}
			if n := wordAt(b, 0xc005); n < many&^0xff || n > len(r.Out) {
				t.Fatalf("L2: the machine of %q put out %d bytes, then %d", c.source, many, n)
			}
			many = wordAt(b, 0xc005)
			b.Cycle()
		}
		// From the first cycle on in which it is told, all is told.
		was := told(b)
		is(t, "state", b.Peek(0xc000), r.Kind)
		is(t, "value", wordAt(b, 0xc001), r.Value)
		is(t, "out", outOf(b), string(r.Out))
		if r.Kind == api.LangTrap {
			is(t, "place", wordAt(b, 0xc003), r.Place)
		}
		for range 20 {
			b.Run(50000)
			is(t, "it stays", told(b) == was, true)
		}
	}
}

// The machine's input may be any 64 numbers; the program goes behind its last one as Run does.
func TestL2Input(t *testing.T) {
	t.Parallel()
	source := "fn main(){var s=0;var n=left();while n+3{s=s*3+in()+left();n=n-1;}return s;}"
	for many := range 65 {
		var in []int
		for i := range many {
			in = append(in, (i*i*40503+many*977)%65536)
		}
		r := runs(t, source, in, 100000)
		is(t, source, sameRun(r, modelRun(source, in, 100000)), true)
		machineDoes(t, source, in, r)
	}
}
