package lang_test

import (
	"strings"
	"testing"

	"arcade/api"
)

// letters is a name that is another one for each number.
func letters(prefix string, n int) string {
	return prefix + string(rune('a'+n/26)) + string(rune('a'+n%26))
}

// list is so many texts, with something between them.
func list(many int, one func(int) string, between string) string {
	var texts []string
	for i := range many {
		texts = append(texts, one(i))
	}
	return strings.Join(texts, between)
}

// Names of globals and functions have one room.
func TestL1Twice(t *testing.T) {
	t.Parallel()
	for _, source := range []string{
		"var a;var @a;" + plain,
		"var a;var @a[3];" + plain,
		"var a[3];var @a;" + plain,
		"var a[3];fn @a(){}" + plain,
		"fn a(){}var @a;" + plain,
		"fn a(){}fn @a(){}" + plain,
		"fn a(){}fn @a(x){}" + plain,
		"fn a(){}var b;fn c(){}fn @a(){}" + plain,
		"var main;fn @main(){}",
		plain + "var @main;",
		plain + "fn @main(){}",
		"fn main(x){}fn @main(){}",
	} {
		wrong(t, api.ErrLangTwice, source)
	}
	// Of a function's head and its block, and of each block, as well.
	for _, body := range []string{
		"fn main(){var a=1;var @a=2;}",
		"fn f(a,@a){}" + plain,
		"fn f(a,b,c,@b){}" + plain,
		"fn f(a,@a,a){}" + plain,
		"fn f(a){var @a=1;}" + plain,
		"fn f(a,b){var c=1;var @b=2;}" + plain,
		"fn main(){{var a=1;var @a=2;}}",
		"fn main(){var a=1;{var a=2;}var @a=3;}",
		"fn main(){if 1{var a=1;}else{var a=1;var @a=1;}}",
		"fn main(){while 0{var a=1;{}var @a=1;}}",
		"fn main(){{var a=1;}{var a=2;var b=3;var @a=4;}}",
		"fn f(a){{var a=1;{var a=1;}var @a=1;}}" + plain,
	} {
		wrong(t, api.ErrLangTwice, body)
	}
	right(t, "var a;var b[2];fn f(a,b,f,main){}fn main(){var a=1;var b=2;var f=3;var main=4;{var a=1;var f=2;{var a=3;}}{var a=4;}if 1{var a=1;}else{var a=2;}while 0{var a=1;}}")
	right(t, "fn f(a){{var a=1;}}fn g(a){if a{var a=1;}while a{var a=1;break;}}"+plain)
}

// An array has 1 to 256 elements.
func TestL1Sizes(t *testing.T) {
	t.Parallel()
	for _, size := range []string{"1", "2", "255", "256", "$1", "$100", "0001", "000256", "'a'", "'\x01'", "'\xff'"} {
		right(t, "var a["+size+"];"+plain)
	}
	for _, size := range []string{"0", "257", "000", "$0", "$101", "512", "65535", "65536", "'\x00'", "99999999999999999999"} {
		wrong(t, api.ErrLangNumber, "var a[@"+size+"];"+plain)
		wrong(t, api.ErrLangNumber, "var b;var a[ @"+size+" ];"+plain)
	}
}

// There are at most 16 functions, 6 parameters, 512 words of globals, and 24 parameters and variables in a function.
func TestL1Many(t *testing.T) {
	t.Parallel()
	functions := func(many int) string {
		return list(many, func(i int) string { return "fn " + letters("f", i) + "(){}" }, "")
	}
	right(t, functions(15)+plain)
	wrong(t, api.ErrLangMany, functions(16)+"fn @main(){}")
	wrong(t, api.ErrLangMany, functions(16)+"fn @x(){}"+plain)
	wrong(t, api.ErrLangMany, plain+functions(15)+"var a;fn @x(){}fn y(){}")
	right(t, "fn f(a,b,c,d,e,f){}"+plain)
	wrong(t, api.ErrLangMany, "fn @f(a,b,c,d,e,f,g){}"+plain)
	wrong(t, api.ErrLangMany, "fn g(){}fn @f(a,b,c,d,e,f,g,h,i,j){}"+plain)
	wrong(t, api.ErrLangMany, "fn @main(a,b,c,d,e,f,g){}")

	right(t, "var a[256];var b[256];"+plain)
	right(t, "var a[256];var b[255];var c;"+plain)
	wrong(t, api.ErrLangMany, "var a[256];var b[256];var @c;"+plain)
	wrong(t, api.ErrLangMany, "var a[256];var b[256];var @c[1];"+plain)
	wrong(t, api.ErrLangMany, "var a[256];var b;var @c[256];"+plain)
	wrong(t, api.ErrLangMany, "var a[256];var b[200];var @c[57];var d[256];"+plain)
	right(t, "var a[256];var b[200];var c[56];"+plain)
	// Words that are told to be too many are so at the first name with which they are.
	right(t, "var a[256];var b[160];"+list(96, func(i int) string { return "var " + letters("v_", i) + ";" }, "")+plain)
	wrong(t, api.ErrLangMany, "var a[256];var b[160];"+list(96, func(i int) string { return "var " + letters("v_", i) + ";" }, "")+"var @x;"+plain)

	variables := func(from, many int) string {
		return list(many, func(i int) string { return "var " + letters("v_", from+i) + "=1;" }, "")
	}
	right(t, "fn main(){"+variables(0, 24)+"}")
	wrong(t, api.ErrLangMany, "fn main(){"+variables(0, 24)+"var @x=1;}")
	wrong(t, api.ErrLangMany, "fn main(){"+variables(0, 24)+"var @x=1;var y=1;}")
	right(t, "fn f(a,b,c,d,e,f){"+variables(0, 18)+"}"+plain)
	wrong(t, api.ErrLangMany, "fn f(a,b,c,d,e,f){"+variables(0, 18)+"var @x=1;}"+plain)
	// All blocks of a function count, those that are closed, too; each function anew.
	wrong(t, api.ErrLangMany, "fn main(){{"+variables(0, 12)+"}{"+variables(0, 12)+"}if 1{var @x=1;}}")
	right(t, "fn main(){{"+variables(0, 12)+"}{"+variables(0, 11)+"}if 1{var x=1;}}")
	right(t, "fn f(){"+variables(0, 24)+"}fn g(){"+variables(0, 24)+"}fn main(){"+variables(0, 24)+"}")
}

// There is a function main without parameters.
func TestL1Main(t *testing.T) {
	t.Parallel()
	for _, source := range []string{"", " ", "#", "\n\n", "var a;", "fn f(){}", "fn main(a){}", "fn main(a,b){}fn f(){}", "var main;", "var main[3];", "fn Main(){}", "fn main_(){}", "fn f(main){var main=1;}", "fn f(){}  # and a comment"} {
		checks(t, source, api.ErrLangMain, len(source))
	}
	right(t, "fn f(){}fn main(){}fn g(){}")
}

// A name is known as what it is used as, or not.
func TestL1Names(t *testing.T) {
	t.Parallel()
	front := "var v;var a[3];fn f(){}fn g(x){}"
	for _, body := range []string{
		"return @x;", "@x=1;", "return @a;", "@a=1;", "return @f;", "@f=1;", "@main=1;", "out @main;", "return @a+1;",
		"return @v[0];", "@v[0]=1;", "return @x[0];", "@x[0]=1;", "@f[0]=1;", "return @main[0];",
		"@x();", "return @x();", "@v();", "return @v();", "@a();", "out @a(1);", "var x=1;@x();",
		"var x=@x;", "{var x=1;}return @x;", "{var x=1;}@x=1;", "if 1{var x=1;}else{@x=1;}", "if 1{var x=1;}return @x;", "while 0{var x=1;}return @x;", "return @x;var x=1;", "@x=1;var x=1;", "{@x=1;}var x=1;", "while @x{var x=0;}", "if @x{var x=1;}",
		"var a=1;return @a[0];", "var a=1;@a[0]=1;", "var a=1;{return @a[0];}", "{var a=1;@a[0]=1;}", "var y=1;return @y[0];",
		"var x=1;{var y=@z;}", "var x=1+(2*@x);", "g(@a);", "a[@a]=1;", "a[@f]=1;", "return a[@x];", "g(@g);",
	} {
		wrong(t, api.ErrLangName, front+"fn main(){"+body+"}")
	}
	wrong(t, api.ErrLangName, front+"fn h(x){}fn main(){return @x;}")
	wrong(t, api.ErrLangName, front+"fn h(){var x=1;}fn main(){@x=1;}")
	wrong(t, api.ErrLangName, front+"fn h(a){return @a[0];}"+plain)
	wrong(t, api.ErrLangName, front+"fn h(a){{{@a[0]=1;}}}"+plain)
	for _, body := range []string{
		"v=v;", "a[0]=a[1];", "f();", "g(f());", "var f=1;f();f=2;", "var main=1;main=main;", "var v=v;", "{var v=v;v=v;}", "var x=1;{var x=x;{var x=x;}}", "{var a=1;a=a;}a[0]=1;", "if 1{var a=1;}return a[0];", "while 1{var x=1;x=x;if x{x=x;}}", "var x=1;while x{x=0;}", "var a=a[0];", "var x=1;var y=x;{var z=y;z=x;}",
	} {
		right(t, front+"fn main(){"+body+"}")
	}
	// What stands further behind in the source is known as well, of what is known throughout.
	right(t, "fn main(){v=1;a[0]=2;f();h();}var v;var a[1];fn f(){h();}fn h(){f();main();}")
}

// A call has as many arguments as its function has parameters.
func TestL1Args(t *testing.T) {
	t.Parallel()
	front := "fn f(){}fn g(x){}fn h(x,y){}fn s(a,b,c,d,e,f){}"
	for _, body := range []string{
		"@f(1);", "@g();", "@g(1,2);", "@h(1);", "@h();", "@h(1,2,3);", "@s(1,2,3,4,5);", "@s(1,2,3,4,5,6,7);", "return @f(1);", "return 1+@g();", "@main(1);", "g(@f(1));", "g(@g());", "h(1,@g());", "@g(f(),f());", "if @g(){}", "while @h(1){}", "@f((1));",
		"@g(g(1),g(2));", "g(1);@g();", "@f(1,1,1,1,1,1,1,1,1,1,1,1,1,1);",
	} {
		wrong(t, api.ErrLangArgs, front+"fn main(){"+body+"}")
	}
	// It is told behind all that is told of its arguments.
	wrong(t, api.ErrLangName, front+"fn main(){f(@x);}")
	wrong(t, api.ErrLangNumber, front+"fn main(){f(@65536);}")
	wrong(t, api.ErrLangArgs, front+"fn main(){f(@g());}")
	wrong(t, api.ErrLangArgs, front+"fn main(){h(@f(1),g());}")
	wrong(t, api.ErrLangArgs, front+"fn main(){@h(f());x=1;}")
	wrong(t, api.ErrLangArgs, front+"fn main(){@g();out x;}")
	wrong(t, api.ErrLangName, front+"fn main(){@x(65536,y);}")
	wrong(t, api.ErrLangName, front+"fn main(){f(1+(2*@x[3]));}")
}

// break and continue stand within a loop of their function.
func TestL1Loops(t *testing.T) {
	t.Parallel()
	for _, word := range []string{"break", "continue"} {
		for _, body := range []string{"@W;", "if 1{@W;}", "if 1{}else{@W;}", "{@W;}", "while 1{}@W;", "while 1{W;}@W;", "while 1{while 1{W;}W;}{@W;}", "while 1{if 1{W;}}if 1{@W;}"} {
			wrong(t, api.ErrLangLoop, "fn main(){"+strings.ReplaceAll(body, "W", word)+"}")
		}
		wrong(t, api.ErrLangLoop, "fn f(){@"+word+";}fn main(){while 1{f();}}")
		wrong(t, api.ErrLangLoop, "fn f(){while 1{}}fn main(){@"+word+";}")
		for _, body := range []string{"while 1{W;}", "while 1{{W;}}", "while 1{if 1{W;}else if 2{W;}else{W;}}", "while 1{while 1{W;}W;}"} {
			right(t, "fn main(){"+strings.ReplaceAll(body, "W", word)+"}")
		}
	}
}

// Of two things that are wrong the first is told.
func TestL1First(t *testing.T) {
	t.Parallel()
	for marked, e := range map[string]api.Errno{
		// What is read goes ahead of all names, and these of all that is in functions, wherever it stands.
		"var a;var a;fn main(){x=1;}@$":             api.ErrLangText,
		"fn main(){x=1;break;out 65536;@":           api.ErrLangText,
		"var a[0];fn main(){break;out (((((((((@(1": api.ErrLangDeep,
		"fn main(){x=1;}var a;var @a;":              api.ErrLangTwice,
		"fn main(){x=1;}var a[@0];":                 api.ErrLangNumber,
		"fn main(){x=1;}fn @f(a,b,c,d,e,f,g){}":     api.ErrLangMany,
		"fn f(){x=1;}var a;@":                       api.ErrLangMain,
		"fn f(){break;}@":                           api.ErrLangMain,
		"fn main(a){return x;}@":                    api.ErrLangMain,
		"fn f(a,a){}@":                              api.ErrLangMain,
		// Names go name by name.
		"var a[@0];var a;" + plain:                    api.ErrLangNumber,
		"var a;var @a[0];" + plain:                    api.ErrLangTwice,
		"var a;var @a;var b[0];" + plain:              api.ErrLangTwice,
		"fn a(){}fn @a(a,b,c,d,e,f,g){}" + plain:      api.ErrLangTwice,
		"fn @f(a,b,c,d,e,f,g){}var b;var b;" + plain:  api.ErrLangMany,
		"var a[256];var b[256];var @a;" + plain:       api.ErrLangTwice,
		"var a[256];var b[256];var c[@257];" + plain:  api.ErrLangNumber,
		"var a[256];var b[256];var @c;var c;" + plain: api.ErrLangMany,
		"var a[256];var b[@300];" + plain:             api.ErrLangNumber,
		// Functions go one behind the other, and each token by token.
		"fn f(){return @x;}fn main(){out 65536;}":       api.ErrLangName,
		"fn main(){out @65536;}fn f(){return x;}":       api.ErrLangNumber,
		"fn main(){out @x+65536;}":                      api.ErrLangName,
		"fn main(){out @65536+x;}":                      api.ErrLangNumber,
		"fn main(){@break;out x;}":                      api.ErrLangLoop,
		"fn main(){out @x;break;}":                      api.ErrLangName,
		"fn main(){var a=1;var @a=65536;}":              api.ErrLangTwice,
		"fn main(){var a=@65536;var a=1;}":              api.ErrLangNumber,
		"fn main(){@x=65536;}":                          api.ErrLangName,
		"fn main(){@x[65536]=y;}":                       api.ErrLangName,
		"var a[1];fn main(){a[@65536]=y;}":              api.ErrLangNumber,
		"var a[1];fn main(){a[0]=@y;b[1]=2;}":           api.ErrLangName,
		"fn f(a,@a){var a=1;}" + plain:                  api.ErrLangTwice,
		"fn main(){if @x{y=1;}else{z=1;}}":              api.ErrLangName,
		"fn main(){if 1{@y=1;}else{z=1;}}":              api.ErrLangName,
		"fn main(){if 1{}else if @y{}else{z=1;}}":       api.ErrLangName,
		"fn main(){if 1{}else if 1{@z=1;}else{break;}}": api.ErrLangName,
		"fn main(){if 1{}else if 1{}else{@break;}x=1;}": api.ErrLangLoop,
		"fn main(){while @x{y=1;}z=1;}":                 api.ErrLangName,
		"fn main(){while 1{@y=1;}z=1;}":                 api.ErrLangName,
		"fn main(){out -@x+y;}":                         api.ErrLangName,
		"fn f(x){}fn main(){out @f()+y;}":               api.ErrLangArgs,
		"fn f(x){}fn main(){out @y+f();}":               api.ErrLangName,
		// Among the tokens it is what comes first, too.
		"fn main(){out @1x;out $;}":             api.ErrLangText,
		"fn main(){out @;$}":                    api.ErrLangText,
		"fn main(){@1 $}":                       api.ErrLangText,
		"fn main(){{{{{{{{{{@{$}}}}}}}}}}}":     api.ErrLangDeep,
		"fn main(){}@}{{{{{{{{{{{{{":            api.ErrLangText,
		"fn main(){out @'xx';abcdefghijklm=1;}": api.ErrLangText,
	} {
		wrong(t, e, marked)
	}
	// Two at one token: a name that is there already, as the 25th.
	var names []string
	for i := range 24 {
		names = append(names, "var "+letters("v_", i)+"=1;")
	}
	wrong(t, api.ErrLangTwice, "fn main(){"+strings.Join(names, "")+"var @v_aa=1;}")
	wrong(t, api.ErrLangMany, "fn main(){"+strings.Join(names, "")+"var @y=x;}")
	wrong(t, api.ErrLangMany, "fn main(){"+strings.Join(names, "")+"{var @v_aa=1;}}")
	// A 17th function whose name is there already.
	var functions []string
	for i := range 16 {
		functions = append(functions, "fn "+letters("f", i)+"(){}")
	}
	wrong(t, api.ErrLangTwice, strings.Join(functions, "")+"fn @faa(){}")
	wrong(t, api.ErrLangMany, strings.Join(functions, "")+"fn @f(a,b,c,d,e,f,g){}")
	// A call of what is no function has no number of arguments that would be wrong.
	wrong(t, api.ErrLangName, "var f;fn main(){@f(1);}")
}
