package lang_test

import (
	"strconv"
	"strings"
	"testing"

	"arcade/api"
)

// An index is below the array's size, or the program is trapped at the array's name.
func TestL1L2TrapIndex(t *testing.T) {
	t.Parallel()
	for _, size := range []int{1, 2, 3, 127, 128, 129, 255, 256} {
		front := "var b;var a[" + strconv.Itoa(size) + "];var c;fn main(){"
		for _, index := range []int{0, 1, size - 2, size - 1, size, size + 1, 127, 128, 255, 256, 257, 511, 512, 32767, 32768, 32768 + size - 1, 65279, 65280, 65534, 65535} {
			if index < 0 {
				continue
			}
			if index < size {
				returns(t, front+"a[in()]=77;return a[in()]+b*2+c*4;}", 77, index, index)
				continue
			}
			traps(t, front+"out 1;return @a[in()];}", 1, index)
			traps(t, front+"out 1;@a[in()]=1;}", 1, index)
			traps(t, front+"out 2;a[0]=5;return 1+-@a[in()]*3;}", 1, index)
		}
	}
	// Elements lie beside no others' ones.
	puts(t, "var a[3];var b;var c[2];var d;fn main(){a[0]=1;a[1]=2;a[2]=3;b=4;c[0]=5;c[1]=6;d=7;out a[0];out a[1];out a[2];out b;out c[0];out c[1];out d;a[2]=9;c[0]=8;out b;out c[1];out a[1];}", "\x01\x02\x03\x04\x05\x06\x07\x04\x06\x02")
	puts(t, "var a[256];var b[256];fn main(){var i=0;while i<256{a[i]=i*257;b[i]=~i;i=i+1;}i=256;var s=0;while i{i=i-1;if a[i]!=i*257||b[i]!=~i{s=s+1;}}out s;}", "\x00")
	// An element is told at its own name, be it within another.
	traps(t, "var a[2];var b[5];fn main(){return a[@b[9]];}", 1)
	traps(t, "var a[2];var b[5];fn main(){b[1]=7;return @a[b[1]];}", 1)
	traps(t, "var a[2];fn f(x){return @a[x];}fn main(){out f(1);out f(2);}", 1)
	// The value is worked out ahead of the index being looked at, and the index ahead of the value.
	traps(t, "var a[3];fn main(){a[3]=1@/0;}", 2)
	traps(t, "var a[3];fn main(){a[1@/0]=1/0;}", 2)
	traps(t, "var a[3];fn main(){a[@a[3]]=1/0;}", 1)
	traps(t, "var a[3];fn main(){@a[3]=a[2];}", 1)
	traps(t, "var a[3];fn main(){a[3]=@a[4];}", 1)
	r := holds(t, "var a[3];fn p(x){out x;return x;}fn main(){a[p(3)]=p(4);}", nil)
	is(t, "out", string(r.Out), "\x03\x04")
	gives(t, "var a[3]; fn main() { a[3] = 1 + 2; }", nil, api.LangRun{Kind: 2, Value: 1, Place: 22, Steps: 5})
}

// By 0 is not divided: the sign is told, behind both sides.
func TestL1L2TrapDivide(t *testing.T) {
	t.Parallel()
	for _, sign := range []string{"/", "%"} {
		for _, left := range []int{0, 1, 65535} {
			traps(t, "fn main(){return in()@"+sign+"in();}", 2, left, 0)
			traps(t, "fn main(){return in()@"+sign+"0;}", 2, left)
		}
		traps(t, "fn main(){return 5 @"+sign+" (1 - 1);}", 2)
		traps(t, "fn main(){return 6"+sign+"3@"+sign+"0;}", 2)
		traps(t, "fn main(){return 6@"+sign+"0"+sign+"0;}", 2)
		traps(t, "fn main(){return 6"+sign+"(3@"+sign+"0);}", 2)
		traps(t, "fn p(x){out x;return x;}fn main(){out p(1)@"+sign+"p(0);}", 2)
		traps(t, "fn f(){return 1@"+sign+"in();}fn main(){out f();out f();}", 2, 1, 0)
		traps(t, "fn main(){if 1@"+sign+"0{}}", 2)
		traps(t, "fn main(){while 1@"+sign+"0{}}", 2)
		traps(t, "fn main(){var x=1@"+sign+"0;}", 2)
	}
	gives(t, "fn main() { return 5 % (1 - 1); }", nil, api.LangRun{Kind: 2, Value: 2, Place: 21, Steps: 6})
}

// With 16 functions running no other one is called: the name is told, behind all arguments.
func TestL1L2TrapDeep(t *testing.T) {
	t.Parallel()
	returns(t, "fn f(n){if n{return f(n-1)+1;}return 0;}fn main(){return f(14);}", 14)
	traps(t, "fn f(n){if n{return @f(n-1)+1;}return 0;}fn main(){return f(15);}", 3)
	traps(t, "fn main(){@main();}", 3)
	traps(t, "fn main(){out 1;return 1+@main();}", 3)
	traps(t, "fn f(){@g();}fn g(){f();}fn main(){f();}", 3)
	traps(t, "fn f(){g();}fn g(){@f();}fn main(){g();}", 3)
	returns(t, "fn f(n){if n{f(n-1);f(n-1);}return n;}fn main(){return f(5)+f(14*0);}", 5)
	// All arguments are worked out ahead.
	traps(t, "fn f(a,b){if left(){out a;return @f(in(),in());}return 0;}fn main(){f(0,0);}", 3, list64(40)...)
	traps(t, "fn f(n){if n==0{return @f(1/1);}f(n-1);}fn main(){f(14);}", 3)
	traps(t, "fn f(n){if n==0{return f(1@/0);}f(n-1);}fn main(){f(14);}", 2)
	traps(t, "var a[2];fn f(n){if n==0{return f(@a[2]);}f(n-1);}fn main(){f(14);}", 1)
	traps(t, "fn f(n){if n==0{return f(@f(0));}f(n-1);}fn main(){f(14);}", 3)
	// Functions that have returned run no more: by the end of the block, by a return from within loops, and so on.
	puts(t, "fn f(x){while 1{if x{return 1;}{return 2;}}}fn g(){}fn main(){var i=0;while i<40{g();f(i%2);i=i+1;}out 5;}", "\x05")
	gives(t, "fn main(){main();}", nil, api.LangRun{Kind: 2, Value: 3, Place: 10, Steps: 32})
}

// list64 is so many numbers.
func list64(many int) []int {
	var in []int
	for i := range many {
		in = append(in, i+1)
	}
	return in
}

// A byte that is put out behind 1024 others is not: the word is told.
func TestL1L2TrapOut(t *testing.T) {
	t.Parallel()
	loop := func(many int, behind string) string {
		return "fn main(){var i=0;while i<" + strconv.Itoa(many) + "{out i;i=i+1;}" + behind + "}"
	}
	var bytes []byte
	for i := range 1024 {
		bytes = append(bytes, byte(i))
	}
	puts(t, loop(1023, ""), string(bytes[:1023]))
	puts(t, loop(1024, ""), string(bytes))
	puts(t, loop(1024, "print \"\";"), string(bytes))
	puts(t, loop(1023, "print \"\xff\";"), string(bytes))
	for _, c := range []struct {
		many   int
		behind string
		place  string
	}{
		{1025, "", "out i"}, {1024, "out 7;", "out 7"}, {1024, "print \"x\";", "print"}, {1023, "print \"\xffx\";", "print"}, {1020, "print \"\xfc\xfd\xfe\xffxyz\";out 1;", "print"}, {1024, "out 1@/0;", ""},
	} {
		source := loop(c.many, c.behind)
		place := strings.Index(source, c.place)
		number := api.TrapOut
		if c.place == "" {
			place, number = strings.Index(source, "@"), api.TrapDivide
			source = strings.Replace(source, "@", "", 1)
		}
		r := holds(t, source, nil)
		if r.Kind != api.LangTrap || r.Value != number || r.Place != place || string(r.Out) != string(bytes) {
			t.Errorf("18.4: Run(%q) = %v, want trap %d at %d", source, r, number, place)
		}
	}
	// The bytes up to the trap are put out, and each of them is a step, that of the one too many, too.
	gives(t, loop(1023, "print \"\xffxy\";"), nil, api.LangRun{Kind: 2, Value: 4, Place: strings.Index(loop(1023, "print"), "print"), Out: bytes, Steps: 2 + 1024*4 + 1023*6 + 3})
	puts(t, "fn main(){print\""+strings.Repeat("abcdefgh", 128)+"\";}", strings.Repeat("abcdefgh", 128))
	traps(t, "fn main(){@print\""+strings.Repeat("abcdefgh", 128)+"x\";}", 4)
	traps(t, "fn f(n){out n;out n;if n{f(n-1);}f2(n);}fn f2(n){var i=0;while i<100{@out i;i=i+1;}}fn main(){f(12);}", 4)
}

// With so much fuel as there are steps a run goes to its end; with less it is the beginning of it.
func TestL4Fuel(t *testing.T) {
	t.Parallel()
	for _, source := range []string{
		"fn main(){}", "fn main(){return;}", "fn main(){return 5;}", "fn main(){return 1/0;}", "fn main(){print\"abc\";}", "fn main(){out 1;out 2;out 3;}", "var a[3];fn main(){a[3]=1;}", "fn main(){main();}", "fn f(n){out n;if n{f(n-1);}}fn main(){f(5);}", "fn main(){while left(){out in();}}", "fn main(){var i=0;while i<1025{out i;i=i+1;}}", "fn main(){if 0{}else if 0{}else{{}}}",
	} {
		in := []int{1, 2, 3}
		r := runs(t, source, in, 100000)
		for fuel := 0; fuel < r.Steps; fuel += 1 + r.Steps/500 {
			s := runs(t, source, in, fuel)
			if !sameRun(s, modelRun(source, in, fuel)) || s.Kind != api.LangFuel || s.Steps != fuel || !strings.HasPrefix(string(r.Out), string(s.Out)) {
				t.Errorf("L4: Run(%q, %d) = %v", source, fuel, s)
			}
		}
		for _, fuel := range []int{r.Steps, r.Steps + 1, 100000} {
			if s := runs(t, source, in, fuel); !sameRun(s, r) {
				t.Errorf("L4: Run(%q, %d) = %v, want %v", source, fuel, s, r)
			}
		}
	}
	is(t, "0", sameRun(runs(t, "fn main(){out 1;}", nil, 0), api.LangRun{Kind: 3}), true)
	is(t, "1", sameRun(runs(t, "fn main(){out 1;}", nil, 1), api.LangRun{Kind: 3, Steps: 1}), true)
	is(t, "2", sameRun(runs(t, "fn main(){out 1;}", nil, 2), api.LangRun{Kind: 1, Steps: 2, Out: []byte{1}}), true)
	is(t, "the greatest", sameRun(runs(t, "fn main(){while 1{}}", nil, 100000), api.LangRun{Kind: 3, Steps: 100000}), true)
	is(t, "a byte that is not paid for", sameRun(runs(t, "fn main(){print\"ab\";}", nil, 2), api.LangRun{Kind: 3, Steps: 2, Out: []byte("a")}), true)
	// A trap that comes with the last step is told.
	is(t, "a trap", sameRun(runs(t, "fn main(){return 1/0;}", nil, 4), api.LangRun{Kind: 2, Value: 2, Place: 18, Steps: 4}), true)
	is(t, "no trap", sameRun(runs(t, "fn main(){return 1/0;}", nil, 3), api.LangRun{Kind: 3, Steps: 3}), true)
}
