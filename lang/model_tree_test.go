package lang_test

import (
	"cmp"
	"slices"
	"strconv"
	"strings"

	"arcade/api"
)

// modelExpr is an expression: its kind is n (a number), w (a variable), [ (an element), ( (a call), in, left, ahead or between.
type modelExpr struct {
	kind  string
	token modelToken // the number, the name, the word or the sign
	end   int        // of an element and a call, where its last bracket stands
	parts []*modelExpr
}

// modelStatement is one: its kind is the word or sign that tells it (=, [, and ( of those that begin with a name).
type modelStatement struct {
	kind   string
	token  modelToken // the word, or the name that is set
	exprs  []*modelExpr
	text   string
	blocks [][]*modelStatement // of an if, what is behind else may be the second one
	other  *modelStatement     // or this
}

// modelPart is a global or a function.
type modelPart struct {
	name   modelToken
	size   *modelToken // of an array
	params []modelToken
	body   []*modelStatement
	isFunc bool
}

// modelTree is the parts of a source whose tokens are right.
func modelTree(source string) []*modelPart {
	tokens, _ := modelScan(source)
	var parts []*modelPart
	for len(tokens) > 0 {
		p := &modelPart{name: tokens[1]}
		parts = append(parts, p)
		if tokens[0].kind == "var" {
			end := modelFind(tokens, ";")
			if end > 2 {
				p.size = &tokens[3]
			}
			tokens = tokens[end+1:]
			continue
		}
		p.isFunc = true
		head := modelFind(tokens, "{")
		for _, t := range tokens[2:head] {
			if t.kind == "w" {
				p.params = append(p.params, t)
			}
		}
		end := modelEnd(tokens, head)
		p.body = modelBlock(tokens[head+1 : end])
		tokens = tokens[end+1:]
	}
	return parts
}

// modelFind is where the first token of a kind stands that is within no brackets.
func modelFind(tokens []modelToken, kind string) int {
	for i := 0; i < len(tokens); i++ {
		if tokens[i].kind == kind {
			return i
		}
		i = modelEnd(tokens, i)
	}
	return -1
}

// modelEnd is where the bracket stands that closes the one here; else here.
func modelEnd(tokens []modelToken, i int) int {
	deep := 0
	for j := i; j < len(tokens); j++ {
		deep += strings.Count("([{", tokens[j].kind) - strings.Count(")]}", tokens[j].kind)
		if deep == 0 {
			return j
		}
	}
	return len(tokens)
}

func modelBlock(tokens []modelToken) []*modelStatement {
	var block []*modelStatement
	for len(tokens) > 0 {
		s, n := modelStatementOf(tokens)
		block = append(block, s)
		tokens = tokens[n:]
	}
	return block
}

// modelStatementOf is the first statement, and how many tokens it has.
func modelStatementOf(tokens []modelToken) (*modelStatement, int) {
	s := &modelStatement{kind: tokens[0].kind, token: tokens[0]}
	switch s.kind {
	case "{":
		end := modelEnd(tokens, 0)
		s.blocks = append(s.blocks, modelBlock(tokens[1:end]))
		return s, end + 1
	case "if", "while":
		from := modelFind(tokens, "{")
		end := modelEnd(tokens, from)
		s.exprs = append(s.exprs, modelExpression(tokens[1:from]))
		s.blocks = append(s.blocks, modelBlock(tokens[from+1:end]))
		if s.kind == "while" || end+1 == len(tokens) || tokens[end+1].kind != "else" {
			return s, end + 1
		}
		o, n := modelStatementOf(tokens[end+2:])
		if o.kind == "if" {
			s.other = o
		} else {
			s.blocks = append(s.blocks, o.blocks[0])
		}
		return s, end + 2 + n
	}
	end := modelFind(tokens, ";")
	modelSimple(s, tokens[:end])
	return s, end + 1
}

// modelSimple is a statement that has no block.
func modelSimple(s *modelStatement, tokens []modelToken) {
	switch s.kind {
	case "print":
		s.text = tokens[1].text
	case "var":
		s.token = tokens[1]
		s.exprs = append(s.exprs, modelExpression(tokens[3:]))
	case "w":
		is := modelFind(tokens, "=")
		s.kind = tokens[1].kind
		if s.kind == "(" {
			s.exprs = append(s.exprs, modelExpression(tokens))
			return
		}
		if s.kind == "[" {
			s.exprs = append(s.exprs, modelExpression(tokens[:is]))
		}
		s.exprs = append(s.exprs, modelExpression(tokens[is+1:]))
	case "return", "out":
		if len(tokens) > 1 {
			s.exprs = append(s.exprs, modelExpression(tokens[1:]))
		}
	}
}

// modelExpression splits at the last one of the signs that bind least.
func modelExpression(tokens []modelToken) *modelExpr {
	at, row := -1, len(modelRows)
	for i := 0; i < len(tokens); i++ {
		if is := modelRowOf(tokens[i].kind); is >= 0 && is <= row && i > 0 && modelEnds(tokens[i-1]) {
			at, row = i, is
		}
		i = modelEnd(tokens, i)
	}
	if at > 0 {
		return &modelExpr{kind: "between", token: tokens[at], parts: []*modelExpr{modelExpression(tokens[:at]), modelExpression(tokens[at+1:])}}
	}
	e := &modelExpr{kind: tokens[0].kind, token: tokens[0]}
	last := len(tokens) - 1
	switch {
	case e.kind == "(":
		return modelExpression(tokens[1:last])
	case strings.Contains("-~!", e.kind):
		e.kind = "ahead"
		e.parts = append(e.parts, modelExpression(tokens[1:]))
	case e.kind == "w" && last > 0:
		e.kind = tokens[1].kind
		e.end = tokens[last].place
		for list := tokens[2:last]; len(list) > 0; {
			end := modelFind(list, ",")
			if end < 0 {
				e.parts = append(e.parts, modelExpression(list))
				break
			}
			e.parts = append(e.parts, modelExpression(list[:end]))
			list = list[end+1:]
		}
	}
	return e
}

// modelEnds tells whether an expression may end with a token, so that a sign behind it stands between two.
func modelEnds(t modelToken) bool {
	return slices.Contains([]string{"n", "w", ")", "]"}, t.kind)
}

// modelFault is one thing that is wrong: in which order it is told (the part, the place, the rank), and what is told.
type modelFault struct {
	part, at, rank int
	errno          api.Errno
	place          int
}

// modelChecker finds all that is wrong.
type modelChecker struct {
	parts  []*modelPart
	part   int
	scopes [][]string
	many   int
	loops  int
	faults []modelFault
}

// find adds one to what is wrong; at is where it is come to.
func (c *modelChecker) find(errno api.Errno, at, place int) {
	ranks := []api.Errno{api.ErrLangNumber, api.ErrLangTwice, api.ErrLangMany, api.ErrLangName, api.ErrLangArgs, api.ErrLangLoop}
	c.faults = append(c.faults, modelFault{c.part, at, slices.Index(ranks, errno), errno, place})
}

// modelCheck is the first thing that is wrong with a source.
func modelCheck(source string) (int, api.Errno) {
	if len(source) > 2000 {
		return 0, api.ErrLangLong
	}
	if place, e := modelRead(source); e != api.OK {
		return place, e
	}
	c := &modelChecker{parts: modelTree(source)}
	if place, e := c.globals(); e != api.OK {
		return place, e
	}
	if i := slices.IndexFunc(c.parts, func(p *modelPart) bool { return p.isFunc && p.name.text == "main" && len(p.params) == 0 }); i < 0 {
		return len(source), api.ErrLangMain
	}
	for i, p := range c.parts {
		if p.isFunc {
			c.part, c.many = i, 0
			c.scopes = [][]string{nil}
			for _, name := range p.params {
				c.twice(name)
				c.declare(name)
			}
			c.statements(p.body)
		}
	}
	if len(c.faults) == 0 {
		return 0, api.OK
	}
	first := slices.MinFunc(c.faults, func(a, b modelFault) int {
		return cmp.Or(cmp.Compare(a.part, b.part), cmp.Compare(a.at, b.at), cmp.Compare(a.rank, b.rank))
	})
	return first.place, first.errno
}

func (c *modelChecker) globals() (int, api.Errno) {
	words, functions := 0, 0
	for i, p := range c.parts {
		if slices.ContainsFunc(c.parts[:i], func(q *modelPart) bool { return q.name.text == p.name.text }) {
			return p.name.place, api.ErrLangTwice
		}
		if p.size != nil && (p.size.value < 1 || p.size.value > 256) {
			return p.size.place, api.ErrLangNumber
		}
		switch {
		case p.isFunc:
			functions++
		case p.size != nil:
			words += p.size.value
		default:
			words++
		}
		if functions > 16 || len(p.params) > 6 || words > 512 {
			return p.name.place, api.ErrLangMany
		}
	}
	return 0, api.OK
}

// twice looks at a name that is about to be declared.
func (c *modelChecker) twice(name modelToken) {
	if slices.Contains(c.scopes[len(c.scopes)-1], name.text) {
		c.find(api.ErrLangTwice, name.place, name.place)
	}
	c.many++
	if c.many > 24 {
		c.find(api.ErrLangMany, name.place, name.place)
	}
}

func (c *modelChecker) declare(name modelToken) {
	last := len(c.scopes) - 1
	c.scopes[last] = append(c.scopes[last], name.text)
}

func (c *modelChecker) block(block []*modelStatement) {
	c.scopes = append(c.scopes, nil)
	c.statements(block)
	c.scopes = c.scopes[:len(c.scopes)-1]
}

func (c *modelChecker) statements(block []*modelStatement) {
	for _, s := range block {
		c.statement(s)
	}
}

func (c *modelChecker) statement(s *modelStatement) {
	switch s.kind {
	case "var":
		c.twice(s.token)
	case "=":
		c.knows(s.token, "w")
	case "break", "continue":
		if c.loops == 0 {
			c.find(api.ErrLangLoop, s.token.place, s.token.place)
		}
	}
	for _, e := range s.exprs {
		c.expression(e)
	}
	if s.kind == "while" {
		c.loops++
	}
	for _, b := range s.blocks {
		c.block(b)
	}
	if s.kind == "while" {
		c.loops--
	}
	if s.other != nil {
		c.statement(s.other)
	}
	if s.kind == "var" {
		c.declare(s.token)
	}
}

func (c *modelChecker) expression(e *modelExpr) {
	switch e.kind {
	case "n":
		if e.token.value > 65535 {
			c.find(api.ErrLangNumber, e.token.place, e.token.place)
		}
	case "w", "[":
		c.knows(e.token, e.kind)
	case "(":
		if p := modelPartOf(c.parts, e.token.text); p == nil || !p.isFunc {
			c.find(api.ErrLangName, e.token.place, e.token.place)
		} else if len(p.params) != len(e.parts) {
			c.find(api.ErrLangArgs, e.end, e.token.place)
		}
	}
	for _, part := range e.parts {
		c.expression(part)
	}
}

// knows looks for a variable (w) or an array ([).
func (c *modelChecker) knows(name modelToken, kind string) {
	local := slices.ContainsFunc(c.scopes, func(names []string) bool { return slices.Contains(names, name.text) })
	p := modelPartOf(c.parts, name.text)
	global := p != nil && !p.isFunc && (p.size != nil) == (kind == "[")
	if kind == "[" && (local || !global) || kind == "w" && !local && !global {
		c.find(api.ErrLangName, name.place, name.place)
	}
}

func modelPartOf(parts []*modelPart, name string) *modelPart {
	for _, p := range parts {
		if p.name.text == name {
			return p
		}
	}
	return nil
}

// modelFormat writes a source that is right: brackets stand where without them another tree would be read.
func modelFormat(source string) string {
	var text strings.Builder
	for _, p := range modelTree(source) {
		switch {
		case p.isFunc:
			var params []string
			for _, name := range p.params {
				params = append(params, name.text)
			}
			text.WriteString("fn " + p.name.text + "(" + strings.Join(params, ", ") + ") {\n" + modelLines(p.body, "\t") + "}\n")
		case p.size != nil:
			text.WriteString("var " + p.name.text + "[" + strconv.Itoa(p.size.value) + "];\n")
		default:
			text.WriteString("var " + p.name.text + ";\n")
		}
	}
	return text.String()
}

// modelLines are the lines of a block's statements, which begin so.
func modelLines(block []*modelStatement, begin string) string {
	text := ""
	for _, s := range block {
		text += begin + modelLine(s, begin) + "\n"
	}
	return text
}

func modelLine(s *modelStatement, begin string) string {
	var exprs []string
	for _, e := range s.exprs {
		exprs = append(exprs, modelText(e))
	}
	var blocks []string
	for _, b := range s.blocks {
		blocks = append(blocks, "{\n"+modelLines(b, begin+"\t")+begin+"}")
	}
	switch s.kind {
	case "{":
		return blocks[0]
	case "while":
		return "while " + exprs[0] + " " + blocks[0]
	case "if":
		text := "if " + exprs[0] + " " + strings.Join(blocks, " else ")
		if s.other != nil {
			text += " else " + modelLine(s.other, begin)
		}
		return text
	case "=":
		return s.token.text + " = " + exprs[0] + ";"
	case "var":
		return "var " + s.token.text + " = " + exprs[0] + ";"
	case "[", "(":
		return strings.Join(exprs, " = ") + ";"
	case "print":
		return "print " + s.text + ";"
	}
	return strings.Join(append([]string{s.kind}, exprs...), " ") + ";"
}

// modelText is an expression, written.
func modelText(e *modelExpr) string {
	var parts []string
	for _, p := range e.parts {
		parts = append(parts, modelText(p))
	}
	switch e.kind {
	case "n":
		return strconv.Itoa(e.token.value)
	case "w":
		return e.token.text
	case "[":
		return e.token.text + "[" + parts[0] + "]"
	case "(":
		return e.token.text + "(" + strings.Join(parts, ", ") + ")"
	case "ahead":
		return e.token.text + modelBracket(parts[0], e.token.text+parts[0], e.token.text, 0)
	case "between":
		sign := " " + e.token.text + " "
		return modelBracket(parts[0], parts[0]+sign+"0", e.token.text, 0) + sign + modelBracket(parts[1], "0"+sign+parts[1], e.token.text, 1)
	}
	return e.kind + "()"
}

// modelBracket is a part in brackets, if where it stands without any, its sign would not be the outermost one, or the part another one.
func modelBracket(part, within, sign string, which int) string {
	tokens, _ := modelScan(within)
	whole := modelExpression(tokens)
	if whole.token.text == sign && len(whole.parts) > which && modelSame(whole.parts[which], part) {
		return part
	}
	return "(" + part + ")"
}

// modelSame tells whether an expression is the one that a text is read as.
func modelSame(e *modelExpr, text string) bool {
	tokens, _ := modelScan(text)
	return modelWhole(e) == modelWhole(modelExpression(tokens))
}

// modelWhole is an expression with all brackets that there may be.
func modelWhole(e *modelExpr) string {
	text := e.kind + e.token.text
	for _, p := range e.parts {
		text += "(" + modelWhole(p) + ")"
	}
	return text
}
