package lang_test

import (
	"slices"
	"strconv"
	"sync"
	"testing"

	"arcade/api"
	"arcade/lang"
)

// What a call answers is new memory, and what it is given stays as it is.
func TestL1New(t *testing.T) {
	t.Parallel()
	source := "var a[3];fn main(){print\"abc\";out in();a[in()]=in();return a[1];}"
	in := []int{65, 1, 77, 5, 6}
	was := slices.Clone(in)
	first := runs(t, source, in, 1000)
	is(t, "in", slices.Equal(in, was), true)
	is(t, "out", string(first.Out), "abcA")
	clear(first.Out)
	first.Out = append(first.Out[:0], 9, 9, 9, 9, 9, 9, 9, 9)
	again := runs(t, source, in, 1000)
	is(t, "out once more", string(again.Out), "abcA")
	is(t, "value", again.Value, 77)
	// What stands behind the input, and ahead of it, is none of it.
	large := []int{1, 65, 1, 77, 88, 99}
	is(t, "a piece", runs(t, source, large[1:4], 1000).Value, 77)
	is(t, "left", runs(t, "fn main(){return left()*10+in();}", large[1:2], 1000).Value, 75)
	is(t, "the rest", slices.Equal(large, []int{1, 65, 1, 77, 88, 99}), true)

	code := image(t, source)
	kept := slices.Clone(code)
	clear(code)
	is(t, "code once more", slices.Equal(image(t, source), kept), true)
	other := image(t, "fn main(){return 5;}")
	clear(other[:cap(other)][:len(other)])
	is(t, "code of another", slices.Equal(image(t, source), kept), true)
	// Lists that are empty are so in each answer.
	is(t, "nothing out", len(runs(t, plain, nil, 0).Out), 0)
	for _, e := range []string{"x", "fn main(){x=1;}"} {
		r, _, _ := lang.Run(e, in, 5)
		m, _, _ := lang.Compile(e)
		is(t, "beside an error", len(r.Out)+len(m.Code)+m.Org+r.Kind+r.Steps, 0)
	}
}

// Nothing is kept from call to call: calls in any order, and side by side, answer the same.
func TestL1SideBySide(t *testing.T) {
	t.Parallel()
	type answer struct {
		text string
		run  api.LangRun
		code []byte
	}
	answers := func(seed int64) answer {
		source, in := lotProgram(31000 + seed)
		text, _, _ := lang.Format(source)
		r, _, _ := lang.Run(source, in, 2000)
		m, _, _ := lang.Compile(source)
		return answer{text, r, m.Code}
	}
	var want []answer
	for seed := range int64(40) {
		want = append(want, answers(seed))
	}
	var group sync.WaitGroup
	for worker := range 8 {
		group.Go(func() {
			for i := range 40 {
				seed := (i*7 + worker*5) % 40
				got := answers(int64(seed))
				if got.text != want[seed].text || !sameRun(got.run, want[seed].run) || !slices.Equal(got.code, want[seed].code) {
					t.Errorf("program %d is another one", seed)
				}
			}
		})
	}
	group.Wait()
}

// No call panics, and each one ends, whatever it is given.
func TestL1Ends(t *testing.T) {
	t.Parallel()
	many := func(text string) string {
		for len(text) < 1900 {
			text += text
		}
		return text[:1900]
	}
	for _, text := range []string{"(", "[", "{", "-", "!", "fn", "fn ", "fn f(", "fn f(){", "var ", "var a", "var a[", "if", "if 1", "if 1{", "else", "while ", "while 1{", "x", "x=", "x[", "f(", "1", "$", "'", "\"", "#", "# \n", "return ", "print", "print\"", "out ", "in(", "left()", ",", ";", "}", ")", "=", "==", "fn main(){}", "fn main(){} ", "\x00", "\xff", "a[", "-a[f(", "1+", "f(1,", "{if 1{}else ", "while 1{break;", "_", "0", "9", "$f"} {
		for _, front := range []string{"", "fn main(){", "fn main(){out ", "fn main(){{{{{{{{{", "var a["} {
			source := front + many(text)
			place, e := modelCheck(source)
			checks(t, source, e, place)
			for n := range 40 {
				short := source[:len(front)+n]
				place, e := modelCheck(short)
				at, f := lang.Check(short)
				is(t, strconv.Quote(short), f, e)
				is(t, strconv.Quote(short), at, place)
			}
		}
	}
}
