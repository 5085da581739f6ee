package lang_test

import (
	"regexp"
	"slices"
	"strconv"
	"strings"

	"arcade/api"
)

// What the document says once more, in other ways: tokens by a pattern, the grammar as a table, trees by looking for the sign that binds least, names by lists at the time when the program runs.

// modelToken is a token: its kind is w (a name), n (a number), t (a text), or the sign or keyword itself.
type modelToken struct {
	kind, text string
	value      int
	place      int
}

var (
	modelBlank   = regexp.MustCompile(`^(?:[ \t\n]|#[^\n]*)*`)
	modelPattern = regexp.MustCompile(`^(?:[A-Za-z_][A-Za-z_0-9]*|[0-9]+[A-Za-z_]?|\$[0-9a-fA-F]+[G-Zg-z_]?|'[^'\n]'|"[^"\n]*"|\|\||&&|==|!=|<=|>=|<<|>>|[|^&<>+\-*/%~!=()\[\]{},;])`)
	modelWord    = regexp.MustCompile(`^[A-Za-z_][A-Za-z_0-9]*$`)
)

var modelKeywords = []string{"fn", "var", "if", "else", "while", "break", "continue", "return", "out", "print", "in", "left"}

// modelScan is the tokens up to the first bytes that begin none, and where these begin; if there are none, -1.
func modelScan(source string) (tokens []modelToken, bad int) {
	// Bytes that are no letters of their own are one to the pattern, so that places stay.
	flat := []byte(source)
	for i, b := range flat {
		if b >= 0x80 {
			flat[i] = 0x7f
		}
	}
	at := 0
	for {
		at += len(modelBlank.Find(flat[at:]))
		if at == len(flat) {
			return tokens, -1
		}
		n := len(modelPattern.Find(flat[at:]))
		if n == 0 {
			return tokens, at
		}
		t, is := modelTokenOf(source[at : at+n])
		if !is {
			return tokens, at
		}
		t.place = at
		tokens = append(tokens, t)
		at += n
	}
}

func modelTokenOf(text string) (modelToken, bool) {
	t := modelToken{kind: text, text: text}
	last := text[len(text)-1]
	switch {
	case modelWord.MatchString(text):
		if !slices.Contains(modelKeywords, text) {
			t.kind = "w"
		}
		return t, len(text) <= 12
	case text[0] == '"':
		t.kind = "t"
	case text[0] == '\'':
		t.kind, t.value = "n", int(text[1])
	case text[0] == '$':
		t.kind, t.value = "n", modelValue(text[1:], 16)
		return t, last <= 'F' || last >= 'a' && last <= 'f'
	case text[0] >= '0' && text[0] <= '9':
		t.kind, t.value = "n", modelValue(text, 10)
		return t, last <= '9'
	}
	return t, true
}

// modelValue is a number; of all too great ones the same.
func modelValue(digits string, base int) int {
	n, err := strconv.ParseUint(strings.TrimLeft(digits, "0"), base, 16)
	if err != nil && strings.Trim(digits, "0") != "" {
		return 1 << 16
	}
	return int(n)
}

// modelRules is the grammar: by what is to be read (words that begin with a capital) and the token that comes, what that is made of. What has a rule for no token may be left out. OPEN opens what stands behind it, up to its CLOSE.
func modelRules() map[string]map[string]string {
	rules := map[string]map[string]string{
		"Program":   {"var": "var w Size ; Program", "fn": "fn w ( Heads ) Block Program", "": ""},
		"Size":      {"[": "[ n ]", "": ""},
		"Heads":     {"w": "w MoreHeads", "": ""},
		"MoreHeads": {",": ", w MoreHeads", "": ""},
		"Block":     {"{": "OPEN { Statements } CLOSE"},
		"Statements": {
			"var":      "var w = Expr ; Statements",
			"w":        "w Named Statements",
			"if":       "If Statements",
			"while":    "while Expr Block Statements",
			"{":        "Block Statements",
			"break":    "break ; Statements",
			"continue": "continue ; Statements",
			"return":   "return Value ; Statements",
			"out":      "out Expr ; Statements",
			"print":    "print t ; Statements",
			"":         "",
		},
		"Named":    {"=": "= Expr ;", "[": "OPEN [ Expr ] CLOSE = Expr ;", "(": "OPEN ( Args ) CLOSE ;"},
		"If":       {"if": "if Expr Block Else"},
		"Else":     {"else": "else Other", "": ""},
		"Other":    {"if": "If", "{": "Block"},
		"More":     {"": ""},
		"Behind":   {"[": "OPEN [ Expr ] CLOSE", "(": "OPEN ( Args ) CLOSE", "": ""},
		"MoreArgs": {",": ", Expr MoreArgs", "": ""},
		"Operand":  {"n": "n", "w": "w Behind", "in": "in OPEN ( ) CLOSE", "left": "left OPEN ( ) CLOSE", "(": "OPEN ( Expr ) CLOSE"},
		"Value":    {"": ""},
		"Args":     {"": ""},
		"Expr":     {},
	}
	for _, sign := range []string{"-", "~", "!"} {
		rules["Operand"][sign] = "OPEN " + sign + " Operand CLOSE"
	}
	for begin := range rules["Operand"] {
		rules["Expr"][begin] = "Operand More"
		rules["Value"][begin] = "Expr"
		rules["Args"][begin] = "Expr MoreArgs"
	}
	for _, sign := range strings.Fields(strings.Join(modelRows, " ")) {
		rules["More"][sign] = sign + " Operand More"
	}
	return rules
}

var modelTable = modelRules()

// modelRows are the signs between two, the rows that bind least first.
var modelRows = []string{"||", "&&", "|", "^", "&", "== !=", "< <= > >=", "<< >>", "+ -", "* / %"}

// modelRowOf is the row of a sign between two, or -1.
func modelRowOf(sign string) int {
	return slices.IndexFunc(modelRows, func(row string) bool { return slices.Contains(strings.Fields(row), sign) })
}

// modelRead is the first thing that is wrong with the tokens of a source.
func modelRead(source string) (int, api.Errno) {
	tokens, bad := modelScan(source)
	end := modelToken{kind: "end", place: len(source)}
	if bad >= 0 {
		end = modelToken{kind: "bad", place: bad}
	}
	tokens = append(tokens, end)
	rules, stack, deep := modelTable, []string{"end", "Program"}, 0
	for len(stack) > 0 {
		now, want := tokens[0], stack[len(stack)-1]
		stack = stack[:len(stack)-1]
		switch {
		case want == "OPEN":
			if stack[len(stack)-1] == now.kind && deep == 10 {
				return now.place, api.ErrLangDeep
			}
			deep++
		case want == "CLOSE":
			deep--
		case rules[want] != nil:
			rule, there := rules[want][now.kind]
			if _, nothing := rules[want][""]; !there && !nothing {
				return now.place, api.ErrLangText
			}
			symbols := strings.Fields(rule)
			slices.Reverse(symbols)
			stack = append(stack, symbols...)
		case want != now.kind:
			return now.place, api.ErrLangText
		default:
			tokens = tokens[1:]
		}
	}
	return 0, api.OK
}
