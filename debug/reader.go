package debug

import (
	"errors"
	"strconv"
	"strings"

	"arcade/api"
)

// fault is what is wrong with a line: what the call answers, and why.
type fault struct {
	errno api.Errno
	why   string
}

func (f fault) Error() string {
	return f.why
}

// errno is what a call answers of what is wrong with a line.
func errno(err error) api.Errno {
	var f fault
	if errors.As(err, &f) {
		return f.errno
	}
	return api.OK
}

// reader reads the words of a line, one behind the other. What is wrong it tells at the end: all words are looked at, and one of the wrong kind goes ahead of a number that is out of its bounds.
type reader struct {
	left  []string
	wrong error
}

func readerOf(line string) *reader {
	return &reader{left: strings.FieldsFunc(line, func(letter rune) bool { return letter == ' ' })}
}

// more tells whether words are left.
func (r *reader) more() bool {
	return len(r.left) > 0
}

// word reads any word.
func (r *reader) word() string {
	if !r.more() {
		r.noSuch("no more words")
		return ""
	}
	word := r.left[0]
	r.left = r.left[1:]
	return word
}

// noSuch says that a word is of the wrong kind.
func (r *reader) noSuch(why string) {
	r.wrong = fault{api.ErrDebugText, why}
}

// outOfBounds says that a number is.
func (r *reader) outOfBounds(n int) {
	if r.wrong == nil {
		r.wrong = fault{api.ErrDebugNumber, "out of bounds: " + strconv.Itoa(n)}
	}
}

// number reads a number that may be from one to another.
func (r *reader) number(least, most int) int {
	word := r.word()
	n, is := numberOf(word)
	if !is {
		r.noSuch("no number: " + word)
	} else if n < least || n > most {
		r.outOfBounds(n)
	}
	return n
}

// numberOr is the same, or what stands for a number that was left out.
func (r *reader) numberOr(standing, least, most int) int {
	if !r.more() {
		return standing
	}
	return r.number(least, most)
}

func (r *reader) address() int {
	return r.number(0, topWord)
}

func (r *reader) register() register {
	word := r.word()
	found, is := registerOf(word)
	if !is {
		r.noSuch("no register: " + word)
	}
	return found
}

// sign reads the sign of a condition.
func (r *reader) sign() string {
	word := r.word()
	at := strings.Index(signs, word)
	if len(word) != 1 || at < 0 {
		r.noSuch("no sign: " + word)
		return ""
	}
	// The word itself would keep the whole line.
	return signs[at : at+1]
}

// end tells what is wrong, if something is; more words are.
func (r *reader) end() error {
	if r.more() {
		r.noSuch("too many words: " + r.left[0])
	}
	return r.wrong
}
