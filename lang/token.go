package lang

import (
	"strings"

	"arcade/api"
)

// kind is what a token is.
type kind int

const (
	kindEnd   kind = iota // none: the source has no more
	kindName              // a word that is no keyword
	kindFixed             // a keyword or a sign
	kindNumber
	kindText
)

// token is a part of a source: as it is written, of a number its value, and its place.
type token struct {
	kind  kind
	text  string
	value int
	place int
}

// is tells whether it is this keyword or this sign.
func (t token) is(fixed string) bool {
	return t.kind == kindFixed && t.text == fixed
}

// mostNumber is the greatest number that may be; tooGreat stands for all above it.
const (
	mostNumber = 65535
	tooGreat   = mostNumber + 1
)

// signs are all of them, the longer ones first.
var signs = [...]string{
	"||", "&&", "==", "!=", "<=", ">=", "<<", ">>",
	"|", "^", "&", "<", ">", "+", "-", "*", "/", "%", "~", "!", "=",
	"(", ")", "[", "]", "{", "}", ",", ";",
}

// scanner goes through a source from the front on, token by token.
type scanner struct {
	source string
	at     int
}

// next reads the next token.
func (s *scanner) next() (token, error) {
	s.skip()
	if s.at == len(s.source) {
		return token{place: s.at}, nil
	}
	t, is := begins(s.source[s.at:])
	if !is {
		return token{}, fault{api.ErrLangText, s.at}
	}
	t.place = s.at
	s.at += len(t.text)
	return t, nil
}

// skip goes on behind blanks and comments.
func (s *scanner) skip() {
	for s.at < len(s.source) {
		switch s.source[s.at] {
		case ' ', '\t', '\n':
			s.at++
		case '#':
			s.at += lengthOf(s.source[s.at:], func(b byte) bool { return b != '\n' })
		default:
			return
		}
	}
}

// lengthOf is how many bytes at the front are such.
func lengthOf(text string, such func(byte) bool) int {
	n := 0
	for n < len(text) && such(text[n]) {
		n++
	}
	return n
}

// begins tells the token with which a text begins, if it does with one. The text is not empty.
func begins(text string) (token, bool) {
	switch first := text[0]; {
	case isLetter(first):
		return wordOf(text)
	case digitOf(first) < 10:
		return digitsOf(text, "", 10)
	case first == '$':
		return digitsOf(text, "$", 16)
	case first == '\'':
		return byteOf(text)
	case first == '"':
		return textOf(text)
	}
	return signOf(text)
}

func wordOf(text string) (token, bool) {
	n := lengthOf(text, func(b byte) bool { return isLetter(b) || digitOf(b) < 10 })
	if n > api.MaxLangWord {
		return token{}, false
	}
	word := text[:n]
	if isKeyword(word) {
		return token{kind: kindFixed, text: word}, true
	}
	return token{kind: kindName, text: word}, true
}

// digitsOf tells a number to a base, ahead of whose digits a mark stands.
func digitsOf(text, mark string, base int) (token, bool) {
	from := len(mark)
	n := from + lengthOf(text[from:], func(b byte) bool { return digitOf(b) < base })
	if n == from || n < len(text) && isLetter(text[n]) {
		return token{}, false
	}
	value := 0
	for _, b := range []byte(text[from:n]) {
		// However many digits there are, a number that is too great stays so.
		value = min(value*base+digitOf(b), tooGreat)
	}
	return token{kind: kindNumber, text: text[:n], value: value}, true
}

// byteOf tells the number that is a byte in quotes.
func byteOf(text string) (token, bool) {
	if len(text) < 3 || text[1] == '\n' || text[1] == '\'' || text[2] != '\'' {
		return token{}, false
	}
	return token{kind: kindNumber, text: text[:3], value: int(text[1])}, true
}

func textOf(text string) (token, bool) {
	n := 1 + lengthOf(text[1:], func(b byte) bool { return b != '"' && b != '\n' })
	if n == len(text) || text[n] == '\n' {
		return token{}, false
	}
	return token{kind: kindText, text: text[:n+1]}, true
}

func signOf(text string) (token, bool) {
	for _, sign := range signs {
		if strings.HasPrefix(text, sign) {
			return token{kind: kindFixed, text: sign}, true
		}
	}
	return token{}, false
}

func isLetter(b byte) bool {
	return b >= 'a' && b <= 'z' || b >= 'A' && b <= 'Z' || b == '_'
}

// noDigit is no digit to any base.
const noDigit = 16

func digitOf(b byte) int {
	switch {
	case b >= '0' && b <= '9':
		return int(b - '0')
	case b >= 'a' && b <= 'f':
		return int(b-'a') + 10
	case b >= 'A' && b <= 'F':
		return int(b-'A') + 10
	}
	return noDigit
}

func isKeyword(word string) bool {
	switch word {
	case "fn", "var", "if", "else", "while", "break", "continue", "return", "out", "print", "in", "left":
		return true
	}
	return false
}
