package lang_test

import (
	"strings"
	"testing"

	"arcade/api"
)

// A source is made of globals and functions, as the grammar says.
func TestL1Programs(t *testing.T) {
	t.Parallel()
	for _, source := range []string{
		"var a;var b[1];fn f(){}fn g(a){}fn h(a,b,c,d,e,f){}fn main(){}var z[$ff];",
		"fn main(){}var a;fn f(){return a;}",
		"fn main(){if 1{}if 1{}else{}if 1{}else if 2{}if 1{}else if 2{}else{}{}{{}}while 0{}}",
		"fn main(){return;}",
		"fn main(){return main()+1;}",
		"fn main(){main();}",
		"var a[2];fn main(){a[a[0]]=a[1];}",
	} {
		right(t, source)
	}
	for _, source := range []string{
		"@1", "@main(){}", "@{}", "@;", "@out 1;", "fn@", "fn @(", "fn main@", "fn main@{}", "fn main(@", "fn main()@", "fn main()@;", "fn main(){@", "fn main(){}@}",
		"fn main(@1){}", "fn f(a @b){}", "fn f(a,@){}", "fn f(@,a){}", "fn f(a,@,b){}", "fn f(a@;b){}", "fn f(a@[){}", "fn f(a@", "fn f(a,@", "fn f(a@=1){}", "fn f(@(a)){}",
		"var@", "var @;", "var a@", "var a@,b;", "var a@=1;", "var a[@];", "var a[@", "var a[1@", "var a[1]@", "var a[1@,2];", "var a[@x];", "var a[@-1];", "var a[1@+1];", "var a@(1);", "var a[@(1)];", "var a[@\"1\"];", "var a[1]@[1];", "var a[1]@=1;",
	} {
		wrong(t, api.ErrLangText, source)
	}
	checks(t, "", api.ErrLangMain, 0)
	checks(t, "var a;", api.ErrLangMain, 6)
}

// Statements are made as the grammar says.
func TestL1Statements(t *testing.T) {
	t.Parallel()
	for _, body := range []string{
		"@;", "@1;", "@-1;", "@(x);", "@else{}", "@in();", "@left();", "@fn f(){}", "}@}", "x@;", "x@", "x@+1;", "x=@;", "x=1@", "x=1@}", "x=1 @y=2;", "x @y;", "x@,y=1;", "x=@*1;", "@1=x;", "x=y@=1;",
		"x[@]=1;", "x[1@=1;", "x[1]@;", "x[1]=@;", "x[1]=1@", "x[1]@[1]=1;", "x[1@,2]=1;", "x@]=1;", "x[1]@(1);",
		"f(@", "f(1@", "f()@", "f(@,1);", "f(1,@);", "f(1 @2);", "f(1@;", "f()@=1;", "f()@+1;", "f()@[1]=1;", "f()@);", "f(1,@,2);",
		"var@", "var @=1;", "var x@;", "var x@[1];", "var x@[1]=1;", "var x=@;", "var x=1@", "var x=1@,y=1;", "var x @1;", "var @1=1;",
		"if@", "if @{}", "if 1@", "if 1@;", "if 1 @out 1;", "if 1{@", "if 1{}else@", "if 1{}else @;", "if 1{}else @x=1;", "if 1{}else if@", "if 1{}else if @{}", "if 1{}else{}@else{}", "if 1{}else{}@else if 1{}", "if 1{}@", "if x@=1{}", "{}@else{}", "while 1{}@else{}",
		"while@", "while @{}", "while 1@;", "while 1@", "while 1{@", "while 1 @if 1{}", "while 1{}@",
		"break@", "break @1;", "continue@", "continue @x;", "return@", "return 1@", "return @}", "return 1@}", "return @{}", "return 1@,2;",
		"out@", "out @;", "out 1@", "out 1@,2;", "out 1 @2;", "print@", "print @;", "print @1;", "print \"x\"@", "print \"x\"@,\"y\";", "print @(\"x\");", "print \"x\"@+1;",
		"{@", "{}@", "{@]}", "{@)}",
	} {
		// What ends behind the mark is to end there.
		source := "fn main(){" + body
		if !strings.HasSuffix(body, "@") {
			source += "}"
		}
		wrong(t, api.ErrLangText, source)
	}
}

// Expressions are made as the grammar says.
func TestL1Expressions(t *testing.T) {
	t.Parallel()
	front := "var a[9];fn f(){return 3;}fn g(x,y){return x-y;}fn main(){var b=4;return "
	for source, value := range map[string]int{
		"1": 1, "b": 4, "a[0]": 0, "f()": 3, "g(7,2)": 5, "in()": 20, "left()": 2, "(1)": 1, "((((1))))": 1, "-1": 65535, "~1": 65534, "!1": 0, "-~!-1": 1, "- - 1": 1, "!!b": 1, "g(g(9,1),f())": 5, "g(g(9,1)-f(),(1))": 4, "a[a[a[b]]]": 0, "g(-1,-2)": 1, "g(in(),in())": 10, "g((1),(2))": 65535, "a[f()]+f()": 3, "(b)+(f())": 7, "-(1+2)": 65533, "-b*b": 65520, "!b+1": 1, "~b&7": 3, "-a[b]": 0, "-f()": 65533, "!left()": 0, "b-1-1": 2, "b-(1-1)": 4,
	} {
		is(t, source, holds(t, front+source+";}", []int{20, 10}).Value, value)
	}
	for _, source := range []string{"@+1", "1+@", "1+@+1", "1 @1", "(@", "(1@", "(@)", "(1@,2)", "@)", "(1@]", "a[@", "a[1@", "a[@]", "a[1@)", "a[1]@[1]", "a[1]@(1)", "f(@", "f(1@", "f(1@]", "f(1 @2)", "f(@,1)", "f(1,@)", "f()@()", "f()@[1]", "in@", "in(@", "in(@1)", "in@[0]", "in()@(1)", "left@", "left(@", "left(@b)", "left@+1", "-@", "!@", "~@", "-@*1", "@*1", "@/1", "@&&1", "1&&@", "1&&@||1", "b @b", "b@=1", "@if", "@var", "@out 1", "@fn", "@[1]", "1@[1]", "@{}", "1--@", "b@!", "b@~", "b@~1", "b@!1", "a[1@;2]"} {
		wrong(t, api.ErrLangText, front+source+";}")
		if strings.HasSuffix(source, "@") {
			wrong(t, api.ErrLangText, front+source)
		}
	}
}

// rowsOf are the signs between two, with the row of each.
func rowsOf() (signs []string, rows []int) {
	for row, line := range []string{"||", "&&", "|", "^", "&", "== !=", "< <= > >=", "<< >>", "+ -", "* / %"} {
		for _, sign := range strings.Fields(line) {
			signs, rows = append(signs, sign), append(rows, row)
		}
	}
	return signs, rows
}

// Each sign binds as tightly as its row says, and of its row from the left on: held against the same with brackets, by numbers with which both may differ.
func TestL1Rows(t *testing.T) {
	t.Parallel()
	signs, rows := rowsOf()
	apart := 0
	for i, first := range signs {
		for j, second := range signs {
			source, left, right := "in()"+first+"in()"+second+"in()", "(in()"+first+"in())"+second+"in()", "in()"+first+"(in()"+second+"in())"
			want, other := left, right
			if rows[j] > rows[i] {
				want, other = right, left
			}
			differ := 0
			for _, in := range [][]int{{1, 2, 3}, {7, 3, 2}, {0, 1, 0}, {1, 0, 1}, {9, 9, 1}, {65535, 3, 15}, {2, 2, 2}, {5, 6, 1}, {0, 0, 7}, {8, 4, 2}, {12, 10, 5}, {1, 5, 5}, {3, 0, 0}} {
				get := func(source string) api.LangRun { return runs(t, "fn main(){return "+source+";}", in, 100) }
				r := get(source)
				if r.Kind != api.LangDone {
					continue
				}
				if r.Value != get(want).Value || r.Steps != get(want).Steps {
					t.Errorf("L1: %s of %v = %v, want that of %s, %v", source, in, r, want, get(want))
				}
				if s := get(other); s.Value != r.Value || s.Kind != r.Kind || s.Steps != r.Steps {
					differ++
				}
			}
			apart += min(differ, 1)
			is(t, source, formats(t, "fn main(){return "+source+";}"), formats(t, "fn main(){return "+want+";}"))
			if first != second || !strings.Contains("||&&|^&+*", first) {
				is(t, source, formats(t, "fn main(){return "+source+";}") == formats(t, "fn main(){return "+other+";}"), false)
			}
		}
	}
	// Most pairs are told apart by what they give; the others by how they are written.
	if apart < 290 {
		t.Errorf("%d pairs of signs are told apart", apart)
	}
}

// deepBy makes what opens so many, by brackets of each kind and by signs ahead, around a 1.
func deepBy(many int) []string {
	turns := ""
	ends := ""
	for i := range many {
		open := []string{"(", "-", "a[", "f(", "!", "~"}[i%6]
		turns += open
		ends = map[string]string{"(": ")", "-": "", "a[": "]", "f(": ")", "!": "", "~": ""}[open] + ends
	}
	return []string{
		strings.Repeat("(", many) + "1" + strings.Repeat(")", many),
		strings.Repeat("-", many) + "1",
		strings.Repeat("!", many) + "1",
		strings.Repeat("~", many) + "1",
		strings.Repeat("a[", many) + "1" + strings.Repeat("]", many),
		strings.Repeat("f(", many) + "1" + strings.Repeat(")", many),
		turns + "1" + ends,
		strings.Repeat("(", many-1) + "in()" + strings.Repeat(")", many-1),
		strings.Repeat("-", many-1) + "left()",
		strings.Repeat("1+(", many) + "1" + strings.Repeat(")*1", many),
	}
}

// lastOpening is where the last token stands that opens something.
func lastOpening(source string) int {
	return strings.LastIndexAny(source, "{([-~!")
}

// At most 10 blocks, brackets and signs ahead are open at the same time.
func TestL1Deep(t *testing.T) {
	t.Parallel()
	front := "var a[256];fn f(x){return x;}"
	for blocks := range 9 {
		open, end := "fn main(){"+strings.Repeat("{", blocks), strings.Repeat("}", blocks)+"}"
		for _, e := range deepBy(9 - blocks) {
			for _, statement := range []string{"var q=" + e + ";", "q=" + e + ";", "return " + e + ";", "out " + e + ";", "a[0]=" + e + ";"} {
				right(t, front+"var q;"+open+statement+end)
			}
		}
		for _, e := range deepBy(10 - blocks) {
			place := lastOpening(e)
			for _, begin := range []string{"var q=", "q=", "return ", "out ", "a[0]=", "if ", "while ", "f(1);out "} {
				checks(t, front+"var q;"+open+begin+e+";"+end, api.ErrLangDeep, len(front+"var q;"+open+begin)+place)
			}
		}
	}
	// Behind what is closed there is room again.
	right(t, "fn main(){out "+strings.Repeat("-1+", 100)+"-1;out "+strings.Repeat("(1)+", 100)+"1;"+strings.Repeat("{}", 100)+strings.Repeat("if 1{}", 50)+"}")
	right(t, "fn main(){"+strings.Repeat("if 1{}else ", 150)+"{}}")
	right(t, "fn main(){out --------1+(((((((((1)))))))))+---------1;}")
	right(t, front+"fn main(){a[a[a[a[a[a[a[a[a[1]]]]]]]]]=a[a[a[a[a[a[a[a[a[1]]]]]]]]];f(f(f(f(f(f(f(f(f(1)))))))));}")
	wrong(t, api.ErrLangDeep, front+"fn main(){a[a[a[a[a[a[a[a[a[a@[1]]]]]]]]]]=1;}")
	wrong(t, api.ErrLangDeep, front+"fn main(){f(f(f(f(f(f(f(f(f(f@(1))))))))));}")
	// A sign is open up to the end of what it stands ahead of.
	right(t, "fn main(){out --------(1)+(1);}")
	right(t, "fn main(){out -------(1+(1*2));}")
	wrong(t, api.ErrLangDeep, "fn main(){out --------(1+@(1));}")
	wrong(t, api.ErrLangDeep, "fn main(){out ---------@(1);}")
	wrong(t, api.ErrLangDeep, front+"fn main(){out ---------a@[1];}")
	wrong(t, api.ErrLangDeep, front+"fn main(){out ---------f@(1);}")
	wrong(t, api.ErrLangDeep, "fn main(){out ---------in@();}")
	right(t, front+"fn main(){out --------a[1]+(1)+a[1]+f(1);}")
	right(t, front+"fn main(){out --------f(1);out --------in();out ---------1;}")
}

// Blocks are deep, too: those of functions, of if, else and while, and those that are statements; an if behind else is not.
func TestL1DeepBlocks(t *testing.T) {
	t.Parallel()
	for _, open := range []string{"{", "if 1{", "while 0{", "if 0{}else{", "if 0{}else if 0{", "if 0{}else if 0{}else{", "if(1){", "while((0)){", "if--1{", "{}{"} {
		right(t, "fn main(){"+strings.Repeat(open, 7)+strings.Repeat("}", 7)+"}")
		right(t, "fn main(){"+strings.Repeat("{", 8)+strings.Replace(strings.Replace(open, "((0))", "(0)", 1), "--", "-", 1)+"}"+strings.Repeat("}", 8)+"}")
	}
	for _, open := range []string{"@{", "if 1@{", "while 0@{", "if 0@{}else{", "if@(1){", "while@(0){", "if@-1{", "@{}"} {
		wrong(t, api.ErrLangDeep, "fn main(){"+strings.Repeat("{", 9)+open)
		wrong(t, api.ErrLangDeep, "fn main(){"+strings.Repeat("while 1{", 9)+open)
		wrong(t, api.ErrLangDeep, "fn main(){"+strings.Repeat("if 1{}else{", 9)+open)
	}
	// The head of a function and the size of a global open nothing.
	right(t, "var a[1];fn f(a,b){}fn main(){{{{{{{{{{}}}}}}}}}}")
	right(t, "fn f(){{{{{{{{{{}}}}}}}}}}fn main(){{{{{{{{{{}}}}}}}}}}")
	// Where one cannot stand at all, that is told.
	wrong(t, api.ErrLangText, "fn main(){{{{{{{{{{@(")
	wrong(t, api.ErrLangText, "fn main(){{{{{{{{{{@-")
	wrong(t, api.ErrLangText, "fn main(){{{{{{{{{{out 1 @{")
	wrong(t, api.ErrLangText, "fn main(){{{{{{{{{{out 1@(1)")
	wrong(t, api.ErrLangText, "fn main(){{{{{{{{{{out 1@[1]")
	wrong(t, api.ErrLangText, "fn main(){{{{{{{{{{out in@{")
	wrong(t, api.ErrLangDeep, "fn main(){{{{{{{{{{out in@(1")
	wrong(t, api.ErrLangDeep, "fn main(){{{{{{{{{{out @-$")
	wrong(t, api.ErrLangText, "fn main(){{{{{{{{{{out @$")
	// What comes first is told.
	wrong(t, api.ErrLangDeep, "fn main(){{{{{{{{{{@{}}}}}}}}}}}$")
	wrong(t, api.ErrLangText, "fn main(){{{{{{{{{{}}}@$}}}}}}}{{{{")
}
