package lang_test

import (
	"strings"
	"testing"

	"arcade/api"
	"arcade/lang"
)

// gives holds how a run goes, and all that is promised of it.
func gives(t *testing.T, source string, in []int, want api.LangRun) {
	t.Helper()
	if r := holds(t, source, in); !sameRun(r, want) {
		t.Errorf("L1: Run(%q, %v) = %v, want %v", source, in, r, want)
	}
}

// returns holds what a program returns.
func returns(t *testing.T, source string, value int, in ...int) {
	t.Helper()
	r := holds(t, source, in)
	if r.Kind != api.LangDone || r.Value != value {
		t.Errorf("L1: Run(%q, %v) = %v, want %d", source, in, r, value)
	}
}

// puts holds what a program that ends puts out.
func puts(t *testing.T, source, out string, in ...int) {
	t.Helper()
	r := holds(t, source, in)
	if r.Kind != api.LangDone || string(r.Out) != out {
		t.Errorf("L1: Run(%q, %v) = %v, want %q", source, in, r, out)
	}
}

// traps holds which trap a program comes to, and at which place, marked by a @.
func traps(t *testing.T, marked string, number int, in ...int) {
	t.Helper()
	front, behind, _ := strings.Cut(marked, "@")
	r := holds(t, front+behind, in)
	if r.Kind != api.LangTrap || r.Value != number || r.Place != len(front) {
		t.Errorf("L1: Run(%q, %v) = %v, want trap %d", marked, in, r, number)
	}
}

// The document's examples.
func TestL1Examples(t *testing.T) {
	t.Parallel()
	gives(t, "fn main() { return 2 + 3 * 4; }", nil, api.LangRun{Kind: 1, Value: 14, Steps: 6})
	gives(t, "var a[3]; fn main() { a[3] = 1; }", nil, api.LangRun{Kind: 2, Value: 1, Place: 22, Steps: 3})
	puts(t, "fn f(n) { if n < 2 { return n; } return f(n - 1) + f(n - 2); } fn main() { out f(7); }", "\x0d")
	wrong(t, api.ErrLangName, "fn main() { return @x; }")
	wrong(t, api.ErrLangText, "fn main() { return 1 @}")
	is(t, "Format", formats(t, "fn main(){if 1==(2)&&3{out'a';}else{}}"), "fn main() {\n\tif 1 == 2 && 3 {\n\t\tout 97;\n\t} else {\n\t}\n}\n")
}

// Each statement, and each expression, is a step, but for brackets and the blocks that others have.
func TestL1Steps(t *testing.T) {
	t.Parallel()
	front := "var g;var a[3];fn f(){}fn h(x){}fn s(x){return x;}fn main(){"
	for body, steps := range map[string]int{
		"": 0, "return;": 1, "return 1;": 2, "out 1;": 2, "print \"abc\";": 4, "print \"\";": 1, "{}": 1, "{{}}": 2, "{{}{}}": 3, "{return;}": 2,
		"if 1{}": 2, "if 0{}": 2, "if 0{}else{}": 2, "if 1{}else{}": 2, "if 0{}else if 0{}": 4, "if 1{}else if 0{}": 2, "if 0{}else if 1{}else{}": 4, "if 0{}else if 0{}else{g=1;}": 6, "if 0{}else if 0{}else if 0{}": 6, "if 0{}else{if 0{}}": 4, "if 1{{}}": 3,
		"while 0{}": 2, "while 1{break;}": 3, "while 1{return;}": 3, "while 1{{break;}}": 4, "while left(){g=in();}": 14, "var i=0;while i<3{i=i+1;}": 30, "while in(){continue;}": 8, "while 0{}while 0{}": 4, "while left(){if in()==8{continue;}out 1;}": 25,
		"out (1);": 2, "out (((1)));": 2, "out ((1)+(2));": 4, "out 1+2;": 4, "out -1;": 3, "out !!1;": 4, "out -(1+2);": 5, "out 1*2+3*4;": 8, "out g;": 2, "g=g;": 2, "g=1;": 2, "var x=1;": 2, "var x=1;x=x;": 4,
		"f();": 2, "h(1);": 3, "h(1+2);": 5, "h(s(1));": 6, "out s(1);": 5, "h(s(s(1)));": 9, "out f();": 2, "a[1]=2;": 3, "out a[1];": 3, "a[a[0]]=a[1];": 5, "out in();": 2, "out left();": 2,
		"out 0&&1;": 3, "out 1&&1;": 4, "out 1||1;": 3, "out 0||1;": 4, "out 0&&1||1;": 5, "out 1||1&&1;": 3, "out 0&&f()/0;": 3,
		"return 1;out 2;": 2, "while 1{break;out 1;}": 3, "if 1{return;}out 1;": 3,
	} {
		r := holds(t, front+body+"}", []int{8, 9, 0})
		if r.Kind != api.LangDone || r.Steps != steps {
			t.Errorf("18.4: %s: %v, want %d steps", body, r, steps)
		}
	}
}

// Statements do what they mean.
func TestL1Statement(t *testing.T) {
	t.Parallel()
	returns(t, "fn main(){}", 0)
	returns(t, "fn main(){return;}", 0)
	returns(t, "fn main(){return 65535;}", 65535)
	returns(t, "fn main(){out 1;return 2;return 3;}", 2)
	returns(t, "fn main(){if 1{return 4;}return 3;}", 4)
	returns(t, "fn f(){return 7;}fn main(){f();}", 0)
	returns(t, "fn f(){return 7;}fn main(){return f()+1;}", 8)
	returns(t, "fn f(){}fn main(){return f()+1;}", 1)
	returns(t, "fn f(){return 5;}fn g(){f();return;}fn h(){f();}fn main(){return g()*10+h()+f();}", 5)
	returns(t, "fn main(){while 1{while 1{return 9;}}}", 9)
	puts(t, "fn main(){out 65;out 256;out 321;out 65535;out -1;}", "A\x00A\xff\xff")
	puts(t, "fn main(){print \"ab\";print \"\";print \"c\";}", "abc")
	// Out of all three ways only one is taken.
	for in, out := range []string{"c", "a", "a", "a"} {
		puts(t, "fn main(){if in(){out'a';}else{out'c';}}", out, in)
	}
	for in, out := range []string{"c", "a", "b", "c"} {
		puts(t, "fn main(){var x=in();if x==1{out'a';}else if x==2{out'b';}else{out'c';}}", out, in)
		puts(t, "fn main(){var x=in();if x==1{out'a';}else{if x==2{out'b';}else{out'c';}}}", out, in)
	}
	for in, out := range []string{"", "a", "b", ""} {
		puts(t, "fn main(){var x=in();if x==1{out'a';}else if x==2{out'b';}}", out, in)
	}
	returns(t, "fn main(){if 256{return 1;}return 2;}", 1)
	returns(t, "fn main(){if 255{return 1;}return 2;}", 1)
	returns(t, "fn main(){while 256{return 1;}return 2;}", 1)
	returns(t, "fn main(){while 32768{return 1;}return 2;}", 1)
}

// Loops go on as long as their expression is not 0; break and continue are of the innermost one.
func TestL1While(t *testing.T) {
	t.Parallel()
	puts(t, "fn main(){var i=0;while i<5{out i;i=i+1;}out i;}", "\x00\x01\x02\x03\x04\x05")
	puts(t, "fn main(){var i=5;while i{i=i-1;out i;}}", "\x04\x03\x02\x01\x00")
	puts(t, "fn main(){while 0{out 1;}out 2;}", "\x02")
	puts(t, "fn main(){var i=0;while 1{i=i+1;if i==3{continue;}if i>5{break;}out i;}}", "\x01\x02\x04\x05")
	puts(t, "fn main(){var i=0;while i<3{var j=0;while j<3{j=j+1;if j==2{continue;}if i==1{break;}out i*16+j;}i=i+1;}}", "\x01\x03\x21\x23")
	puts(t, "fn main(){var i=0;while i<3{i=i+1;{{if i==2{break;}}}out i;}out 9;}", "\x01\x09")
	puts(t, "fn main(){var i=0;while i<3{i=i+1;while 1{break;}out i;}}", "\x01\x02\x03")
	puts(t, "fn main(){var i=0;while i<3{i=i+1;while i==2{out 7;break;}if i==2{continue;}out i;}}", "\x01\x07\x03")
	puts(t, "fn f(x){while 1{if x{return x;}x=x+1;}}fn main(){while left(){out f(in());}}", "\x03\x01\x05", 3, 0, 5)
	// A variable of the loop's block is another one each time.
	puts(t, "var g;fn main(){var i=0;while i<3{var x=g+i;x=x+10;out x;i=i+1;}}", "\x0a\x0b\x0c")
	// The expression is worked out anew each time.
	puts(t, "fn f(){out'f';return in();}fn main(){while f(){out'x';}}", "fxfxf", 1, 2, 0, 1)
	puts(t, "fn f(){out'f';return in();}fn main(){while f(){out'x';continue;}}", "fxfxf", 1, 2, 0, 1)
}

// Variables hide others up to their block's end; parameters are the function's own; globals are 0 at first.
func TestL1Variables(t *testing.T) {
	t.Parallel()
	returns(t, "var g;fn main(){return g;}", 0)
	returns(t, "var a[256];var b[256];fn main(){var i=0;var s=0;while i<256{s=s|a[i]|b[i];i=i+1;}return s;}", 0)
	puts(t, "var x;fn main(){x=1;out x;var x=x+1;out x;{out x;var x=x+1;out x;{var x=x*10;out x;}out x;x=9;}out x;f();}fn f(){out x;}", "\x01\x02\x02\x03\x1e\x03\x02\x01")
	puts(t, "var x;fn f(x){x=x+1;out x;{var x=7;out x;}return x;}fn main(){x=3;out f(x);out x;out f(x+5);}", "\x04\x07\x04\x03\x09\x07\x09")
	puts(t, "fn main(){var x=1;if x{var x=2;out x;x=3;}else{var x=4;out x;}out x;while x{x=0;var x=5;out x;}out x;}", "\x02\x01\x05\x00")
	puts(t, "fn f(a,b){if a{var c=a*b;b=f(a-1,b);return c+b;}return b;}fn main(){out f(4,5);}", "7")
	puts(t, "var f;fn f2(f){return f;}fn main(){f=2;var main=3;out f2(f);out main;}", "\x02\x03")
	puts(t, "var main2;fn f(){main2=main2+1;return main2;}fn main(){out f();out f();var f=7;out f();out f;}", "\x01\x02\x03\x07")
	// A hidden array is one again behind the block.
	puts(t, "var a[2];fn main(){a[1]=5;{var a=6;out a;}out a[1];}", "\x06\x05")
	// Each call has variables of its own.
	puts(t, "fn f(n){var x=n;if n{f(n-1);}out x;}fn main(){f(3);}", "\x00\x01\x02\x03")
	// A variable that is declared once more is what it is set to once more.
	puts(t, "fn main(){var i=0;while i<2{var x=0;x=x+1;out x;i=i+1;}}", "\x01\x01")
	// The greatest number of variables, each one its own.
	source := "fn f(a,b,c,d,e,g){"
	for i := range 18 {
		source += "var " + letters("v_", i) + "=" + letters("", i%3) + "*2+" + string(rune('0'+i%10)) + ";"
	}
	source = strings.NewReplacer("=aa*", "=a*", "=ab*", "=b*", "=ac*", "=c*").Replace(source)
	puts(t, source+"out a;out b;out c;out d;out e;out g;"+list(18, func(i int) string { return "out " + letters("v_", i) + ";" }, "")+"}fn main(){f(10,20,30,40,50,60);}",
		"\x0a\x14\x1e\x28\x32\x3c"+"\x14\x29\x3e\x17\x2c\x41\x1a\x2f\x44\x1d\x28\x3d\x16\x2b\x40\x19\x2e\x43")
	puts(t, "fn f(a,b,c,d,e,g){a=a+1;g=g*2;c=a+g;out a;out b;out c;out d;out e;out g;}fn main(){f(1,2,3,4,5,6);}", "\x02\x02\x0e\x04\x05\x0c")
}

// Functions call themselves and each other.
func TestL1Functions(t *testing.T) {
	t.Parallel()
	returns(t, "fn f(n){if n{return n*f(n-1);}return 1;}fn main(){return f(8);}", 40320)
	returns(t, "fn even(n){if n==0{return 1;}return odd(n-1);}fn odd(n){if n==0{return 0;}return even(n-1);}fn main(){return even(10)*10+odd(7);}", 11)
	returns(t, "fn gcd(a,b){if b==0{return a;}return gcd(b,a%b);}fn main(){return gcd(1071,462);}", 21)
	returns(t, "fn a(m,n){if m==0{return n+1;}if n==0{return a(m-1,1);}return a(m-1,a(m,n-1));}fn main(){return a(2,2);}", 7)
	returns(t, "fn s(a,b,c,d,e,f){return a*32+b*16+c*8+d*4+e*2+f;}fn main(){return s(1,0,1,0,1,1);}", 43)
	returns(t, "fn d(a,b){return a-b;}fn main(){return d(d(9,d(5,3)),d(4,d(3,1)));}", 5)
	puts(t, "fn p(x){out x;return x;}fn f(a,b,c){return a*100+b*10+c;}fn main(){out f(p(1),p(2),p(3));}", "\x01\x02\x03\x7b")
	puts(t, "fn main(){out left();if in(){main();}out 7;}", "\x02\x01\x07\x07", 1, 0)
	puts(t, "fn sort(n){var i=0;while i<n{var j=i;while j&&a[j-1]>a[j]{var x=a[j];a[j]=a[j-1];a[j-1]=x;j=j-1;}i=i+1;}}var a[64];fn main(){var n=0;while left(){a[n]=in();n=n+1;}sort(n);var i=0;while i<n{out a[i];i=i+1;}}", "\x01\x02\x02\x05\x07\x09", 7, 2, 9, 1, 5, 2)
	puts(t, "var p[100];fn main(){var i=2;while i<100{if !p[i]{out i;var j=i+i;while j<100{p[j]=1;j=j+i;}}i=i+1;}}", "\x02\x03\x05\x07\x0b\x0d\x11\x13\x17\x1d\x1f\x25\x29\x2b\x2f\x35\x3b\x3d\x43\x47\x49\x4f\x53\x59\x61")
}

// Operands, arguments, and a statement's expressions are worked out from the left on.
func TestL1Order(t *testing.T) {
	t.Parallel()
	signs, _ := rowsOf()
	for _, sign := range signs {
		if sign == "&&" || sign == "||" {
			continue
		}
		source := "fn l(x){out'l';return x;}fn r(x){out'r';return x;}fn main(){return l(40)" + sign + "r(3);}"
		puts(t, source, "lr")
		returns(t, source, modelBetween(sign, 40, 3))
		returns(t, "fn main(){return in()"+sign+"in();}", modelBetween(sign, 40, 3), 40, 3)
	}
	puts(t, "fn p(x){out x;return x;}var a[9];fn main(){a[p(3)]=p(4);out a[3];a[p(1)+p(2)]=p(5)*p(6);out a[3];}", "\x03\x04\x04\x01\x02\x05\x06\x1e")
	puts(t, "fn p(x){out x;return x;}fn f(a,b,c){}fn main(){f(p(1),p(2)+p(3),f(p(4),p(5),p(6)));}", "\x01\x02\x03\x04\x05\x06")
	// What is set within the right side does not change what the left one was.
	returns(t, "var g;fn s(x){g=x;return 1;}fn main(){g=5;return g*10+s(7)+g;}", 58)
	returns(t, "var g;fn s(x){g=x;return 1;}fn main(){g=5;return g+(s(7)+g);}", 13)
	returns(t, "var g;var a[3];fn s(x){g=x;return 8;}fn main(){g=1;a[g]=s(2);return a[1]*10+a[2];}", 80)
	returns(t, "var g;fn s(x){g=x;return x;}fn f(a,b){return a*10+b;}fn main(){g=3;return f(g,s(4));}", 34)
}

// && and || leave out their right side, where the left one tells all, and give 1 or 0.
func TestL1Shortened(t *testing.T) {
	t.Parallel()
	front := "fn l(x){out'l';return x;}fn r(x){out'r';return x;}fn main(){return l(in())"
	for _, c := range []struct {
		sign        string
		left, right int
		value       int
		out         string
	}{
		{"&&", 0, 0, 0, "l"}, {"&&", 0, 7, 0, "l"}, {"&&", 7, 0, 0, "lr"}, {"&&", 7, 9, 1, "lr"}, {"&&", 256, 512, 1, "lr"}, {"&&", 65535, 1, 1, "lr"},
		{"||", 0, 0, 0, "lr"}, {"||", 0, 7, 1, "lr"}, {"||", 7, 0, 1, "l"}, {"||", 7, 9, 1, "l"}, {"||", 256, 0, 1, "l"}, {"||", 0, 256, 1, "lr"}, {"||", 0, 32768, 1, "lr"},
	} {
		source := front + c.sign + "r(in());}"
		puts(t, source, c.out, c.left, c.right)
		returns(t, source, c.value, c.left, c.right)
	}
	returns(t, "fn main(){return 0&&1/0;}", 0)
	returns(t, "fn main(){return 2||1/0;}", 1)
	returns(t, "fn main(){return 1&&0&&1/0||0||5;}", 1)
	returns(t, "fn f(){return f();}fn main(){return 0&&f()||1||f();}", 1)
	returns(t, "var a[1];fn main(){var i=9;return i<1&&a[i]||i>8;}", 1)
	traps(t, "fn main(){return 1&&1@/0;}", 2)
	traps(t, "fn main(){return 0||1@/0;}", 2)
}

// The input comes number by number, and then there are noughts.
func TestL1Input(t *testing.T) {
	t.Parallel()
	returns(t, "fn main(){return in();}", 0)
	returns(t, "fn main(){return left();}", 0)
	returns(t, "fn main(){return in();}", 65535, 65535)
	returns(t, "fn main(){return in();}", 0x1234, 0x1234)
	returns(t, "fn main(){var x=in();return in();}", 256, 255, 256)
	returns(t, "fn main(){var x=in()+in();return in()+left();}", 0, 1, 2)
	puts(t, "fn main(){out left();out in();out left();out in();out left();out in();out left();}", "\x02\x05\x01\x06\x00\x00\x00", 5, 6)
	puts(t, "fn f(){return in();}fn main(){out f()-in();}", "\x03", 9, 6)
	var in []int
	for i := range 64 {
		in = append(in, i*1021%65536)
	}
	want := ""
	for _, n := range in {
		want += string([]byte{byte(n), byte(n >> 8)})
	}
	puts(t, "fn main(){out left();while left(){var x=in();out x;out x>>8;}out in();}", "\x40"+want+"\x00", in...)
	// What is left over changes nothing.
	returns(t, "fn main(){return left();}", 64, in...)
}

// What is handed in beside the source is looked at behind it.
func TestL1Refused(t *testing.T) {
	t.Parallel()
	refused := func(in []int, fuel int) {
		t.Helper()
		r, at, e := lang.Run("fn main(){}", in, fuel)
		if !sameRun(r, api.LangRun{}) || at != 0 || e != api.ErrArg {
			t.Errorf("18.6: Run(%v, %d) = %v, %d, %d", in, fuel, r, at, e)
		}
		if _, at, e := lang.Run("fn main(){x=1;}", in, fuel); at != 10 || e != api.ErrLangName {
			t.Errorf("18.6: Run(%v, %d) of what is wrong = %d, %d", in, fuel, at, e)
		}
	}
	refused(nil, -1)
	refused(nil, 100001)
	refused(nil, 1<<40)
	refused(nil, -1<<63)
	refused([]int{-1}, 5)
	refused([]int{65536}, 5)
	refused([]int{1, 2, 1 << 40, 3}, 5)
	refused([]int{1, 2, 3, -65535}, 5)
	refused(make([]int, 65), 5)
	refused(make([]int, 100000), 5)
	for _, fuel := range []int{0, 1, 99999, 100000} {
		is(t, "kind", runs(t, "fn main(){}", make([]int, 64), fuel).Kind, api.LangDone)
	}
	is(t, "kind", runs(t, "fn main(){}", []int{0, 65535}, 0).Kind, api.LangDone)
}
