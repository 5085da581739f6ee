package lang_test

import (
	"strconv"
	"strings"
	"testing"

	"arcade/api"
)

// A source has at most MaxLang bytes, whatever they are.
func TestL1Long(t *testing.T) {
	t.Parallel()
	for _, filling := range []string{" ", "\n", "#", "\t"} {
		right(t, plain+strings.Repeat(filling, 2000-len(plain)))
		checks(t, plain+strings.Repeat(filling, 2001-len(plain)), api.ErrLangLong, 0)
	}
	right(t, strings.Repeat(" ", 2000-len(plain))+plain)
	checks(t, strings.Repeat(" ", 2001-len(plain))+plain, api.ErrLangLong, 0)
	right(t, "fn main(){print\""+strings.Repeat("x", 2000-19)+"\";}")
	checks(t, "fn main(){print\""+strings.Repeat("x", 2001-19)+"\";}", api.ErrLangLong, 0)
	// It is told ahead of all else.
	checks(t, strings.Repeat("@", 2000), api.ErrLangText, 0)
	checks(t, strings.Repeat("@", 2001), api.ErrLangLong, 0)
	checks(t, strings.Repeat("\xff", 1000000), api.ErrLangLong, 0)
	checks(t, strings.Repeat(" ", 2000), api.ErrLangMain, 2000)
	checks(t, strings.Repeat(" ", 2001), api.ErrLangLong, 0)
}

// Between tokens there may be blanks and comments, or nothing, where nothing must be.
func TestL1Blanks(t *testing.T) {
	t.Parallel()
	for _, source := range []string{
		"fn main(){}",
		" \t\n fn \n main \t ( ) { } \n\n",
		"#\nfn#\nmain#x\n(#)\n)#}\n{# \n}#",
		"fn main(){}#",
		"fn main(){}# \xff\x00\r\"'",
		"fn main(){}\n#\n#\n##",
		"# fn main() {",
		"fn\tmain\n(\n)\t{\n}",
	} {
		if source == "# fn main() {" {
			checks(t, source, api.ErrLangMain, len(source))
			continue
		}
		right(t, source)
		is(t, source, formats(t, source), "fn main() {\n}\n")
	}
	for _, b := range "\r\v\f\x00\x7f\\.?@:`" {
		wrong(t, api.ErrLangText, "fn main()@"+string(b)+"{}")
	}
	wrong(t, api.ErrLangText, "fn main()@\xa0{}")
	wrong(t, api.ErrLangText, "@\xef\xbb\xbffn main(){}")
	wrong(t, api.ErrLangText, "fn main(){}@\r\n")
	// A comment is no part of a text, and none ends within one.
	is(t, "out", string(holds(t, "fn main(){print\"#\";#\"\nprint\"#\";}", nil).Out), "##")
	// What a comment stands in for is nothing: two words are parted by it.
	is(t, "value", holds(t, "fn main(){return#x\n7#y\n;}", nil).Value, 7)
	wrong(t, api.ErrLangText, "fn main(){return 1#;\n@}")
}

// Words have at most 12 bytes, keywords and names alike.
func TestL1Words(t *testing.T) {
	t.Parallel()
	for _, name := range []string{"a", "_", "Z", "a1", "_9", "__________", "a23456789012", "abcdefghijkl", "____________", "ABCDEFGHIJKL", "fnn", "Fn", "vars", "IF", "elsewhere", "in1", "inn", "left_", "_left", "printer", "outs", "returned", "breaks", "continued", "whiles"} {
		r := holds(t, "var "+name+";fn f("+name+"){return "+name+";}fn main(){"+name+"=7;return f(8)*10+"+name+";}", nil)
		is(t, name, r.Value, 87)
	}
	for _, name := range []string{"abcdefghijklm", "a234567890123", "_____________", "continue_____", "AAAAAAAAAAAAAAAAAAAAAAAAAAAA", strings.Repeat("x", 1500)} {
		wrong(t, api.ErrLangText, "fn main(){@"+name+"=1;}")
		wrong(t, api.ErrLangText, "var @"+name+";"+plain)
		wrong(t, api.ErrLangText, "fn main(){return @"+name+";}")
	}
	for _, keyword := range modelKeywords {
		wrong(t, api.ErrLangText, "var @"+keyword+";"+plain)
		wrong(t, api.ErrLangText, "fn @"+keyword+"(){}"+plain)
		wrong(t, api.ErrLangText, "fn f(@"+keyword+"){}"+plain)
		wrong(t, api.ErrLangText, "fn main(){var @"+keyword+"=1;}")
		if keyword != "in" && keyword != "left" {
			wrong(t, api.ErrLangText, "fn main(){out @"+keyword+";}")
		}
	}
	// Each token is as long as it can be.
	wrong(t, api.ErrLangText, "@fnmain(){}")
	wrong(t, api.ErrLangName, "fn main(){return @outa;}")
	wrong(t, api.ErrLangText, "fn main(){outa@;}")
	right(t, "fn main(){out$a;out'a';out(1);out-1;print\"\";}")
}

// Numbers are of digits to the base 10 or 16, or a byte in quotes.
func TestL1Numbers(t *testing.T) {
	t.Parallel()
	numbers := map[string]int{
		"0": 0, "7": 7, "65535": 65535, "00000000000065535": 65535, "0000": 0, "1234567890"[:4]: 1234, "09": 9,
		"$0": 0, "$f": 15, "$F": 15, "$aB": 171, "$ffff": 65535, "$FFFF": 65535, "$0000000000000000000ffff": 65535, "$09": 9, "$1234": 0x1234, "$cdef": 0xcdef, "$CDEF": 0xcdef, "$5678": 0x5678,
		"'a'": 'a', "' '": ' ', "'\"'": '"', "'#'": '#', "'\t'": 9, "'\x00'": 0, "'\xff'": 255, "'\x80'": 128, "'\\'": '\\', "'0'": 48, "'\r'": 13,
	}
	for text, value := range numbers {
		is(t, text, holds(t, "fn main(){return "+text+";}", nil).Value, value)
		is(t, text, formats(t, "fn main(){return "+text+";}"), "fn main() {\n\treturn "+strconv.Itoa(value)+";\n}\n")
	}
	for _, text := range []string{"65536", "065536", "00000000000065536", "99999", "100000", "$10000", "$00010000", "$fffff", "18446744073709551616", "$10000000000000000", strings.Repeat("9", 1900), "$" + strings.Repeat("f", 1900), "18446744073709551617", "4294967296", "4294967297", "$100000001"} {
		wrong(t, api.ErrLangNumber, "fn main(){return @"+text+";}")
		wrong(t, api.ErrLangNumber, "var a[@"+text+"];"+plain)
	}
	is(t, "many noughts", holds(t, "fn main(){return "+strings.Repeat("0", 1900)+"12;}", nil).Value, 12)
	is(t, "many noughts", holds(t, "fn main(){return $"+strings.Repeat("0", 1900)+"12;}", nil).Value, 18)
	for _, text := range []string{"1x", "1_", "0x10", "1a", "1e", "65536x", "1abcdefghijklmnop", "$", "$g", "$_", "$1g", "$fz", "$1_", "$fG", "$$1", "$ 1", "$'a'", "''", "'a", "'ab'", "'", "'\n'", "'''", "'a\n'", "''a'"} {
		wrong(t, api.ErrLangText, "fn main(){return @"+text+";}")
		wrong(t, api.ErrLangText, "var a[@"+text+"];"+plain)
		wrong(t, api.ErrLangText, "fn main(){return @"+text)
	}
	// A byte in quotes may have anything right behind it; what it is is another token.
	wrong(t, api.ErrLangText, "fn main(){return 'a'@b;}")
	wrong(t, api.ErrLangText, "fn main(){return 'a'@'b';}")
	wrong(t, api.ErrLangText, "fn main(){return 1@'b';}")
	wrong(t, api.ErrLangText, "fn main(){return 1@$2;}")
	wrong(t, api.ErrLangText, "fn main(){return $2@$2;}")
	wrong(t, api.ErrLangText, "fn main(){return 1 @2;}")
	// At the source's end they are whole tokens.
	wrong(t, api.ErrLangText, "fn main(){return 12@")
	wrong(t, api.ErrLangText, "fn main(){return $12@")
	wrong(t, api.ErrLangText, "fn main(){return 'a'@")
	wrong(t, api.ErrLangText, "fn main(){return @'a")
	wrong(t, api.ErrLangText, "fn main(){return @'")
	wrong(t, api.ErrLangText, "fn main(){return @$")
	wrong(t, api.ErrLangText, "fn main(){return @''")
	wrong(t, api.ErrLangText, "fn main(){return 12  # and a comment@")
}

// A text has any bytes but newlines and quotes, and ends on its line.
func TestL1Texts(t *testing.T) {
	t.Parallel()
	all := ""
	for b := range 256 {
		if b != '\n' && b != '"' {
			all += string([]byte{byte(b)})
		}
	}
	for _, text := range []string{"", " ", "x", "'", "#", "\\n", "\\", "\x00", "\xff\xfe", "fn main(){}", "\r", "\t", all} {
		source := "fn main(){print\"" + text + "\";}"
		r := holds(t, source, nil)
		is(t, source, string(r.Out), text)
		is(t, source, r.Steps, 1+len(text))
		is(t, source, formats(t, source), "fn main() {\n\tprint \""+text+"\";\n}\n")
	}
	wrong(t, api.ErrLangText, "fn main(){print @\"x\n\";}")
	wrong(t, api.ErrLangText, "fn main(){print @\"x")
	wrong(t, api.ErrLangText, "fn main(){print @\"")
	wrong(t, api.ErrLangText, "fn main(){print \"x\"@")
	wrong(t, api.ErrLangText, "fn main(){print \"x\"@\";}")
	wrong(t, api.ErrLangText, "fn main(){print @x;}")
	wrong(t, api.ErrLangText, "fn main(){print @'x';}")
	wrong(t, api.ErrLangText, "fn main(){print @;}")
	wrong(t, api.ErrLangText, "fn main(){out @\"x\";}")
	wrong(t, api.ErrLangText, "fn main(){return 1+@\"x\";}")
	wrong(t, api.ErrLangText, "fn main(){@\"x\";}")
}

// Signs are as long as they can be, too: some that stand for two are one.
func TestL1Signs(t *testing.T) {
	t.Parallel()
	for source, value := range map[string]int{
		"1<<2": 4, "1<=2": 1, "1< -2": 1, "1<-2": 1, "3>>1": 1, "3>=1": 1, "1==1": 1, "1!=1": 0, "!1": 0, "!!1": 1, "1&&1": 1, "3&2": 2, "1||0": 1, "1|2": 3, "1--1": 2, "1-~1": 3, "-~1": 2, "~-1": 0, "1&~1": 0, "1|!0": 1, "1||!0": 1, "1&&!1": 0, "2^3": 1, "2*3%4": 2,
	} {
		is(t, source, holds(t, "fn main(){return "+source+";}", nil).Value, value)
	}
	for _, source := range []string{"1< @<2", "1< @=2", "1& @&2", "1| @|2", "1@= =2", "1@! =2", "1<<@<2", "1>>@>2", "1==@=2", "1&&@&2", "1||@|2", "1@!2", "1@~2", "1@=2", "1*@**2", "1<=@=2", "@)", "(@)", "1+@", "@+1", "1@,2", "1@]", "@[1]", "1@[1]", "1@(1)", "1@{1}"} {
		wrong(t, api.ErrLangText, "fn main(){return "+source+";}")
	}
	// To be equal is no setting.
	wrong(t, api.ErrLangText, "fn main(){x@==1;}")
	wrong(t, api.ErrLangText, "fn main(){var x@==1;}")
	right(t, "fn main(){var x=!1;x=-1;x=~x;}")
}
