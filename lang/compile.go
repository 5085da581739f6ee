package lang

import "arcade/api"

// The instructions of which programs are made, beside the routines.
const (
	loadA     = 0x3e // ld a, n
	loadBC    = 0x01 // ld bc, w
	loadDE    = 0x11 // ld de, w
	loadHL    = 0x21 // ld hl, w
	addSP     = 0x39 // add hl, sp
	pushHL    = 0xe5 // push hl
	popDE     = 0xd1 // pop de
	moveSP    = 0xe8 // add sp, s
	jump      = 0xc3 // jp w
	jumpZero  = 0xca // jp z, w
	jumpOther = 0xc2 // jp nz, w
	callTo    = 0xcd // call w
)

// word is how many bytes one has.
const wordBytes = 2

// label is a place of the code, which may be spoken of ahead of its being known.
type label struct {
	address int
}

// mention is where the code speaks of a label.
type mention struct {
	at int
	of *label
}

// generator makes the code of a program.
type generator struct {
	code     []byte
	routines map[string]int
	mentions []mention
	entries  []*label // of the functions, by their numbers
	function *function
	exit     *label // of the function
	pushed   int    // words that lie on the stack above the function's variables
	loops    []ends // of the loops that are open, the innermost last
}

// ends are where continue and break lead.
type ends struct {
	again, behind *label
}

// compiled is the image of a program that was checked.
func compiled(p *program) api.Image {
	g := &generator{}
	g.code, g.routines = machine()
	for range p.functions {
		g.entries = append(g.entries, &label{})
	}
	g.leap(callTo, g.entries[p.main.number])
	g.addWord(jump, g.routines["end"])
	for _, f := range p.functions {
		g.compile(f)
	}
	g.fillIn()
	return api.Image{Org: api.LangOrg, Code: g.code}
}

// fillIn writes the labels' addresses where they are spoken of.
func (g *generator) fillIn() {
	for _, m := range g.mentions {
		g.code[m.at], g.code[m.at+1] = byte(m.of.address), byte(m.of.address>>8)
	}
}

func (g *generator) add(bytes ...byte) {
	g.code = append(g.code, bytes...)
}

// addWord adds an instruction with a word.
func (g *generator) addWord(instruction byte, word int) {
	g.add(instruction, byte(word), byte(word>>8))
}

// leap adds an instruction that leads to a label.
func (g *generator) leap(instruction byte, to *label) {
	g.mentions = append(g.mentions, mention{len(g.code) + 1, to})
	g.addWord(instruction, 0)
}

// here makes a label stand for where the code goes on.
func (g *generator) here(l *label) {
	l.address = api.LangOrg + len(g.code)
}

// routine calls one.
func (g *generator) routine(name string) {
	g.addWord(callTo, g.routines[name])
}

// at calls a routine that may be trapped at a token.
func (g *generator) at(t token, name string) {
	g.addWord(loadBC, t.place)
	g.routine(name)
}

func (g *generator) push() {
	g.add(pushHL)
	g.pushed++
}

func (g *generator) pop() {
	g.add(popDE)
	g.pushed--
}

// move lets the stack grow or, by fewer than 0, shrink by words.
func (g *generator) move(words int) {
	if words != 0 {
		g.add(moveSP, byte(-words*wordBytes))
	}
}

// compile adds the code of a function. The caller has pushed what its parameters are; its variables lie above these and what the call pushed.
func (g *generator) compile(f *function) {
	g.function, g.exit = f, &label{}
	variables := f.locals - len(f.params)
	g.here(g.entries[f.number])
	g.routine("enter")
	g.move(variables)
	g.block(f.body)
	g.addWord(loadHL, 0)
	g.here(g.exit)
	g.move(-variables)
	g.addWord(jump, g.routines["leave"])
}

func (g *generator) block(b block) {
	for _, s := range b {
		s.compile(g)
	}
}

// address makes hl where a variable is.
func (g *generator) address(s slot) {
	if s.global {
		g.addWord(loadHL, globalsAt+s.at*wordBytes)
		return
	}
	g.addWord(loadHL, g.above(s.at)*wordBytes)
	g.add(addSP)
}

// above is how many words lie on the stack above a parameter or a variable of the function.
func (g *generator) above(local int) int {
	if params := len(g.function.params); local >= params {
		return g.pushed + local - params
	}
	// The last parameter was pushed last; where the function returns to, and then all variables, lie above it.
	return g.pushed + g.function.locals - local
}

// set adds what sets a variable to what hl is.
func (g *generator) set(s slot) {
	g.push()
	g.address(s)
	g.pop()
	g.routine("keep")
}

// element makes hl where the element is whose index is in de.
func (g *generator) element(e *element) {
	g.add(loadA, byte(e.array.words()-1))
	g.addWord(loadHL, globalsAt+e.array.at*wordBytes)
	g.at(e.name, "element")
}
