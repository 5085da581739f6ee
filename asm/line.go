package asm

import "strings"

// line is what a line of a source says: its label (of equ its name; a local one with its point), the word of its statement, and what stands behind that.
type line struct {
	label string
	word  string
	code  int // of an instruction: its opcode, as forms tells it
	items []item
}

// item is an expression, or, if it has no steps, a text.
type item struct {
	steps []step
	text  string
}

// instructionWord stands for the first word of each instruction.
const instructionWord = "instruction"

// readLine reads a line, and gives up if it is none.
func readLine(text string, forms map[string]int) line {
	r := reader{text: withoutComment(text), points: true}
	var l line
reading:
	for r.skipBlanks(); !r.done(); r.skipBlanks() {
		word := r.labelOrWord()
		r.skipBlanks()
		switch {
		case reserved(word):
			r.statement(&l, word, forms)
			break reading
		case l.label != "":
			r.refuse()
		case r.take(':'):
			l.label = word
			continue reading
		default:
			r.constant(&l, word)
			break reading
		}
	}
	if !r.done() {
		r.refuse()
	}
	return l
}

// withoutComment is a line up to the semicolon that is not within quotes.
func withoutComment(text string) string {
	end, quoted := len(text), 0 // quoted: up to there all is within quotes
scanning:
	for i, sign := range text {
		if i < quoted {
			continue scanning
		}
		switch sign {
		case ';':
			end = i
			break scanning
		case '"':
			length := strings.IndexByte(text[i+1:], '"')
			if length < 0 {
				break scanning
			}
			quoted = i + 1 + length + 1
		case '\'':
			if i+2 < len(text) && text[i+2] == '\'' {
				quoted = i + 3
			}
		}
	}
	return text[:end]
}

// labelOrWord reads what a line may begin with.
func (r *reader) labelOrWord() string {
	if r.next() == '.' {
		return r.local()
	}
	return r.word()
}

// constant reads what stands behind a name that is no label.
func (r *reader) constant(l *line, name string) {
	if name[0] == '.' || r.word() != "equ" {
		r.refuse()
	}
	l.label, l.word = name, "equ"
	l.items = r.items(1, (*reader).numberItem)
}

// statement reads what stands behind the first word of a statement.
func (r *reader) statement(l *line, word string, forms map[string]int) {
	l.word = word
	switch word {
	case "org":
		l.items = r.items(1, (*reader).numberItem)
	case "ds":
		l.items = r.items(2, (*reader).numberItem)
	case "dw":
		l.items = r.items(len(r.text), (*reader).numberItem)
	case "db":
		l.items = r.items(len(r.text), (*reader).byteItem)
	default:
		r.instruction(l, word, forms)
	}
}

// items reads one at least, with commas between, and no more than many.
func (r *reader) items(many int, read func(*reader) item) []item {
	found := []item{read(r)}
	for len(found) < many && r.take(',') {
		found = append(found, read(r))
	}
	return found
}

func (r *reader) numberItem() item {
	return item{steps: r.expression()}
}

func (r *reader) byteItem() item {
	r.skipBlanks()
	if !r.take('"') {
		return r.numberItem()
	}
	length := strings.IndexByte(r.text[r.at:], '"')
	if length < 0 {
		r.refuse()
	}
	text := r.text[r.at : r.at+length]
	r.at += length + 1
	r.skipBlanks()
	return item{text: text}
}

// instruction reads one, and writes it as forms has it, to find its opcode.
func (r *reader) instruction(l *line, word string, forms map[string]int) {
	form := word
	if !r.done() {
		form += " " + r.place(l)
	}
	for r.take(',') {
		form += ", " + r.place(l)
	}
	code, ok := forms[form]
	if !ok {
		r.refuse()
	}
	l.word, l.code = instructionWord, code
}

// place reads what an instruction works on, with or without square brackets, and the blanks ahead of it and behind it.
func (r *reader) place(l *line) string {
	r.skipBlanks()
	if !r.take('[') {
		return r.inner(l)
	}
	r.skipBlanks()
	form := "[" + r.inner(l) + "]"
	r.expect(']')
	r.skipBlanks()
	return form
}

// inner reads a reserved word with what may be added to it, or an expression.
func (r *reader) inner(l *line) string {
	word, ok := r.register()
	if !ok {
		l.items = append(l.items, r.numberItem())
		return string(hole)
	}
	r.skipBlanks()
	switch {
	case r.take('-'):
		word += "-"
	case r.take('+'):
		word += "+"
	default:
		return word
	}
	r.skipBlanks()
	if r.next() != ']' {
		l.items = append(l.items, r.numberItem())
		word += string(hole)
	}
	return word
}

// register goes on behind a reserved word with which no expression begins, if it comes next.
func (r *reader) register() (string, bool) {
	from := r.at
	if !isLetter(r.next()) {
		return "", false
	}
	word := r.word()
	if !reserved(word) || word == "high" || word == "low" {
		r.at = from
		return "", false
	}
	return word, true
}
