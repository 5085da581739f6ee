package lang_test

import (
	"math/rand"
	"strings"
	"testing"

	"arcade/api"
)

// written holds how a source is written, and that this is written the same.
func written(t *testing.T, source, want string) {
	t.Helper()
	text := formats(t, source)
	if text != want {
		t.Errorf("18.6: Format(%q) = %q, want %q", source, text, want)
	}
	if len(text) > api.MaxLang {
		checks(t, text, api.ErrLangLong, 0)
		return
	}
	if again := formats(t, text); again != text {
		t.Errorf("L3: Format(%q) = %q", text, again)
	}
}

// Globals, functions and statements have a line each, or some.
func TestL3Lines(t *testing.T) {
	t.Parallel()
	front := "var a;var b[3];fn f(){}fn g(x,y){}"
	start := "var a;\nvar b[3];\nfn f() {\n}\nfn g(x, y) {\n}\nfn main() {\n"
	written(t, front+plain, start+"}\n")
	for body, lines := range map[string]string{
		"a=1;": "\ta = 1;\n", "b [ 1 ] = 2 ;": "\tb[1] = 2;\n", "f();": "\tf();\n", "g(1,2);": "\tg(1, 2);\n", "g ( 1\n,\n2 ) ;": "\tg(1, 2);\n", "var x=1;": "\tvar x = 1;\n",
		"return;": "\treturn;\n", "return 1;": "\treturn 1;\n", "return(1);": "\treturn 1;\n", "out 1;": "\tout 1;\n", "out'a';": "\tout 97;\n", "print\"a  b\";": "\tprint \"a  b\";\n", "print\"\";": "\tprint \"\";\n", "print \"#\t'\";": "\tprint \"#\t'\";\n",
		"{}": "\t{\n\t}\n", "{{}}": "\t{\n\t\t{\n\t\t}\n\t}\n", "{a=1;}": "\t{\n\t\ta = 1;\n\t}\n", "{}{}": "\t{\n\t}\n\t{\n\t}\n",
		"while a{}": "\twhile a {\n\t}\n", "while(a){break;}": "\twhile a {\n\t\tbreak;\n\t}\n", "while a{while a{continue;}a=1;}": "\twhile a {\n\t\twhile a {\n\t\t\tcontinue;\n\t\t}\n\t\ta = 1;\n\t}\n",
		"if a{}": "\tif a {\n\t}\n", "if a{}else{}": "\tif a {\n\t} else {\n\t}\n", "if a{a=1;}else{a=2;}": "\tif a {\n\t\ta = 1;\n\t} else {\n\t\ta = 2;\n\t}\n",
		"if a{}else if 1{}": "\tif a {\n\t} else if 1 {\n\t}\n", "if a{}else if 1{}else{}": "\tif a {\n\t} else if 1 {\n\t} else {\n\t}\n", "if a{}else{if 1{}}": "\tif a {\n\t} else {\n\t\tif 1 {\n\t\t}\n\t}\n", "if a{}else{if 1{}else{}}": "\tif a {\n\t} else {\n\t\tif 1 {\n\t\t} else {\n\t\t}\n\t}\n",
		"if a{out 1;}else if 1{out 2;}else if 2{out 3;}else{out 4;}": "\tif a {\n\t\tout 1;\n\t} else if 1 {\n\t\tout 2;\n\t} else if 2 {\n\t\tout 3;\n\t} else {\n\t\tout 4;\n\t}\n",
		"if a{}{}": "\tif a {\n\t}\n\t{\n\t}\n", "a=in();a=left();": "\ta = in();\n\ta = left();\n", "a=in(# x\n)# y\n;# z": "\ta = in();\n",
		"a=0;a=00;a=$0a;a=$00FF;a=65535;a=$ffff;a='\xff';": "\ta = 0;\n\ta = 0;\n\ta = 10;\n\ta = 255;\n\ta = 65535;\n\ta = 65535;\n\ta = 255;\n",
	} {
		if strings.HasSuffix(body, "# z") {
			body += "\n"
		}
		written(t, front+"fn main(){"+body+"}", start+lines+"}\n")
		written(t, "# a comment\n"+front+" fn  main ( ) {\n\n"+body+"}\n\n#end", start+lines+"}\n")
	}
	written(t, "fn main(){}var a;fn f(a){}var b[$100];", "fn main() {\n}\nvar a;\nfn f(a) {\n}\nvar b[256];\n")
	written(t, "fn f(a,b,c,d,e,g){}fn main(){f(1,(2),3+4,f(1,2,3,4,5,6),-(5),(((6))));}", "fn f(a, b, c, d, e, g) {\n}\nfn main() {\n\tf(1, 2, 3 + 4, f(1, 2, 3, 4, 5, 6), -5, 6);\n}\n")
	nine := "fn main(){{{{{{{{{{}}}}}}}}}}"
	deep := "fn main() {\n"
	for i := range 9 {
		deep += strings.Repeat("\t", i+1) + "{\n"
	}
	for i := range 9 {
		deep += strings.Repeat("\t", 9-i) + "}\n"
	}
	written(t, nine, deep+"}\n")
}

// Brackets stand round what is looser than its place, and of one row round the right one; all others are left out.
func TestL3Brackets(t *testing.T) {
	t.Parallel()
	front, start := "var x;var a[9];fn f(y,z){}fn main(){return ", "var x;\nvar a[9];\nfn f(y, z) {\n}\nfn main() {\n\treturn "
	expression := func(source, want string) {
		t.Helper()
		written(t, front+source+";}", start+want+";\n}\n")
	}
	signs, rows := rowsOf()
	for i, outer := range signs {
		for j, inner := range signs {
			within := "2 " + inner + " 3"
			left, right := within+" "+outer+" 1", "1 "+outer+" "+within
			if rows[j] < rows[i] {
				left = "(" + within + ") " + outer + " 1"
			}
			if rows[j] <= rows[i] {
				right = "1 " + outer + " (" + within + ")"
			}
			expression("((2"+inner+"3))"+outer+"1", left)
			expression("1"+outer+"((2"+inner+"3))", right)
			expression("((2"+inner+"(3))"+outer+"(1))", left)
		}
		expression("(1)"+outer+"(x)", "1 "+outer+" x")
		expression("(-1)"+outer+"(~x)", "-1 "+outer+" ~x")
		expression("-(1"+outer+"x)", "-(1 "+outer+" x)")
		expression("!((1)"+outer+"(x))", "!(1 "+outer+" x)")
		expression("(a[1])"+outer+"(f(1,2))", "a[1] "+outer+" f(1, 2)")
		expression("a[(1"+outer+"x)]", "a[1 "+outer+" x]")
		expression("f((1"+outer+"x),(x"+outer+"1))", "f(1 "+outer+" x, x "+outer+" 1)")
		expression("(in())"+outer+"(left())", "in() "+outer+" left()")
		expression("-1"+outer+"-1", "-1 "+outer+" -1")
		expression("-(1)"+outer+"1", "-1 "+outer+" 1")
		expression("(((((1"+outer+"2)))))", "1 "+outer+" 2")
	}
	for _, sign := range []string{"-", "~", "!"} {
		for _, of := range []string{"1", "x", "a[1]", "f(1, 2)", "in()", "left()", "-1", "~x", "!x", "-~!1"} {
			expression(sign+"("+of+")", sign+of)
			expression(sign+" "+of, sign+of)
			expression("(("+sign+"(("+of+"))))", sign+of)
			expression(sign+"("+sign+"("+of+"))", sign+sign+of)
		}
	}
	expression("((1+2)*(3+4))*((5*6)+7)", "(1 + 2) * (3 + 4) * (5 * 6 + 7)")
	expression("1-(2-(3-(4-5)))", "1 - (2 - (3 - (4 - 5)))")
	expression("(((1-2)-3)-4)-5", "1 - 2 - 3 - 4 - 5")
	expression("1&&(2||3)&&(4&&5)", "1 && (2 || 3) && (4 && 5)")
	expression("((1||2)||3)||(4||5)", "1 || 2 || 3 || (4 || 5)")
	expression("1<<((2+3)*4)", "1 << (2 + 3) * 4")
	expression("(1<<2)+3", "(1 << 2) + 3")
	expression("1+(2%(3))", "1 + 2 % 3")
	expression("(1+2)%(3)", "(1 + 2) % 3")
	expression("!(1)==(0)", "!1 == 0")
	expression("!(1==0)", "!(1 == 0)")
	expression("a[(a[(1)])]", "a[a[1]]")
	// Of one row are also signs that are not the same.
	expression("1-(2+3)", "1 - (2 + 3)")
	expression("(1-2)+3", "1 - 2 + 3")
	expression("1*(2/3)", "1 * (2 / 3)")
	expression("1<(2>=3)", "1 < (2 >= 3)")
	expression("(1<2)>=3", "1 < 2 >= 3")
	expression("1==(2!=3)", "1 == (2 != 3)")
	expression("1<<(2>>3)", "1 << (2 >> 3)")
	// What signs ahead bind is what stands alone.
	expression("(-1)*2", "-1 * 2")
	expression("-(1*2)", "-(1 * 2)")
	expression("-1*2", "-1 * 2")
}

// In each statement brackets round the whole are left out.
func TestL3Whole(t *testing.T) {
	t.Parallel()
	written(t, "var a[2];var x;fn f(y){}fn main(){var z=((1));x=(x);a[(1)]=((2));f((3));out(4);if(1){}else if((2)){}while(3){}return(5);}",
		"var a[2];\nvar x;\nfn f(y) {\n}\nfn main() {\n\tvar z = 1;\n\tx = x;\n\ta[1] = 2;\n\tf(3);\n\tout 4;\n\tif 1 {\n\t} else if 2 {\n\t}\n\twhile 3 {\n\t}\n\treturn 5;\n}\n")
}

// tree is an expression by lot, with or without brackets that it needs not.
func tree(r *rand.Rand, most int) string {
	signs, _ := rowsOf()
	switch n := r.Intn(10); {
	case most == 0 || n == 0:
		return []string{"x", "1", "0", "3", "$ff", "in()", "left()", "a[1]", "a[x%4]"}[r.Intn(9)]
	case n < 5:
		return tree(r, most-1) + signs[r.Intn(len(signs))] + tree(r, most-1)
	case n < 7:
		return []string{"-", "~", "!"}[r.Intn(3)] + tree(r, most-1)
	case n == 7:
		return "f(" + tree(r, most-1) + "," + tree(r, most-1) + ")"
	}
	return "(" + tree(r, most-1) + ")"
}

// Expressions by lot are written with just the brackets that they need, and mean the same.
func TestL3Trees(t *testing.T) {
	t.Parallel()
	r := rand.New(rand.NewSource(18))
	most := 0
	for range 1200 {
		source := "var a[4];fn f(b,c){return b-c;}fn main(){var x=in();a[1]=in();return " + tree(r, 7) + ";}"
		if _, e := modelCheck(source); e != api.OK {
			continue
		}
		in := []int{r.Intn(20), r.Intn(65536), r.Intn(3)}
		text, x := formats(t, source), runs(t, source, in, 500)
		if want := modelFormat(source); text != want {
			t.Fatalf("18.6: Format(%q) = %q, want %q", source, text, want)
		}
		if len(text) > api.MaxLang {
			continue
		}
		most = max(most, strings.Count(text, "("))
		if y := runs(t, text, in, 500); !sameButPlaces(x, y) || formats(t, text) != text {
			t.Fatalf("L3: %q is written as %q: %v, %v", source, text, x, y)
		}
	}
	if most < 20 {
		t.Errorf("%d brackets at most", most)
	}
}

// A Format may have more bytes than its source, and more than a source may have.
func TestL3Long(t *testing.T) {
	t.Parallel()
	line := func(n int) string { return strings.Repeat("x=1;", n) }
	front, start := "var x;fn main(){{{{{{{{", "var x;\nfn main() {\n"
	for i := range 7 {
		start += strings.Repeat("\t", i+1) + "{\n"
	}
	end := ""
	for i := range 7 {
		end += strings.Repeat("\t", 7-i) + "}\n"
	}
	end += "}\n"
	for _, n := range []int{1, 50, 115, 116, 117, 118, 119, 120, 121, 122, 400, 490} {
		source := front + line(n) + "}}}}}}}}"
		if len(source) > api.MaxLang {
			t.Fatal(len(source))
		}
		written(t, source, start+strings.Repeat("\t\t\t\t\t\t\t\tx = 1;\n", n)+end)
	}
	// Just as many bytes as a source may have, and one more.
	body := strings.Repeat("out 10+10;", 130)
	for _, size := range []int{1999, 2000, 2001} {
		text := formats(t, "fn main(){"+body+"}")
		filling := strings.Repeat("y", size-len(text)-len("\tprint \"\";\n"))
		source := "fn main(){" + body + "print\"" + filling + "\";}"
		text = formats(t, source)
		is(t, "bytes", len(text), size)
		written(t, source, text)
	}
	// The longest ones that there are.
	long := "fn main(){{{{{{{{{{" + strings.Repeat("return;", 280) + "}}}}}}}}}}"
	written(t, long, modelFormat(long))
	blocks := "fn main(){{{{{{{{{" + strings.Repeat("{}", 980) + "}}}}}}}}}"
	written(t, blocks, modelFormat(blocks))
	signs := "fn main(){return 1" + strings.Repeat("+1", 990) + ";}"
	written(t, signs, "fn main() {\n\treturn 1"+strings.Repeat(" + 1", 990)+";\n}\n")
	brackets := "fn main(){return (((((((((1" + strings.Repeat("+1", 100) + ")))))))))" + strings.Repeat("-(1)", 300) + ";}"
	written(t, brackets, "fn main() {\n\treturn 1"+strings.Repeat(" + 1", 100)+strings.Repeat(" - 1", 300)+";\n}\n")
}
