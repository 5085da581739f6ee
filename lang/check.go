package lang

import "arcade/api"

// meaning is what a name of the whole program stands for: one of both.
type meaning struct {
	global   *global
	function *function
}

// checker looks at a program's names and numbers, from the front on, and finds what the names stand for. The first thing that is wrong counts.
type checker struct {
	names     map[string]meaning
	words     int // of the globals, up to now
	functions int
	blocks    []map[string]int // of each that is open, the innermost last, what its names stand for
	locals    int              // of the function, up to now
	loops     int              // that are open
	wrong     error
}

// checked reads a source and checks it.
func checked(source string) (*program, error) {
	p, err := read(source)
	if err != nil {
		return nil, err
	}
	c := &checker{names: map[string]meaning{}}
	for _, part := range p.parts {
		part.declare(c)
	}
	p.main = c.names["main"].function
	if p.main == nil || len(p.main.params) > 0 {
		c.giveUp(api.ErrLangMain, p.length)
	}
	for _, f := range p.functions {
		c.function(f)
	}
	return p, c.wrong
}

// giveUp keeps the first thing that is wrong.
func (c *checker) giveUp(e api.Errno, place int) {
	if c.wrong == nil {
		c.wrong = fault{e, place}
	}
}

// name makes a name of the whole program stand for something.
func (c *checker) name(name token, m meaning) {
	if _, there := c.names[name.text]; there {
		c.giveUp(api.ErrLangTwice, name.place)
	}
	c.names[name.text] = m
}

func (g *global) declare(c *checker) {
	c.name(g.name, meaning{global: g})
	if words := g.words(); words < 1 || words > api.MaxArray {
		c.giveUp(api.ErrLangNumber, g.size.place)
	}
	g.at = c.words
	c.words += g.words()
	if c.words > api.MaxGlobal {
		c.giveUp(api.ErrLangMany, g.name.place)
	}
}

func (f *function) declare(c *checker) {
	c.name(f.name, meaning{function: f})
	c.functions++
	if c.functions > api.MaxFuncs || len(f.params) > api.MaxParams {
		c.giveUp(api.ErrLangMany, f.name.place)
	}
}

func (c *checker) function(f *function) {
	c.locals = 0
	c.inBlock(func() {
		for _, p := range f.params {
			c.look(p)
			c.local(p)
		}
		c.statements(f.body)
	})
	f.locals = c.locals
}

// inBlock does something within a block of its own.
func (c *checker) inBlock(do func()) {
	c.blocks = append(c.blocks, map[string]int{})
	do()
	c.blocks = c.blocks[:len(c.blocks)-1]
}

func (c *checker) statements(b block) {
	for _, s := range b {
		s.check(c)
	}
}

func (c *checker) block(b block) {
	c.inBlock(func() { c.statements(b) })
}

func (c *checker) innermost() map[string]int {
	return c.blocks[len(c.blocks)-1]
}

// look tells whether a parameter or a variable may have its name, and whether there may be one more.
func (c *checker) look(name token) {
	if _, there := c.innermost()[name.text]; there {
		c.giveUp(api.ErrLangTwice, name.place)
	}
	if c.locals == api.MaxLocals {
		c.giveUp(api.ErrLangMany, name.place)
	}
}

// local makes a parameter or a variable known from here on.
func (c *checker) local(name token) slot {
	s := slot{at: c.locals}
	c.innermost()[name.text] = s.at
	c.locals++
	return s
}

// findLocal finds the parameter or the variable of a name, if one is known here.
func (c *checker) findLocal(name token) (int, bool) {
	for i := len(c.blocks) - 1; i >= 0; i-- {
		if at, there := c.blocks[i][name.text]; there {
			return at, true
		}
	}
	return 0, false
}

// variable finds what a name stands for that is used as a variable.
func (c *checker) variable(name token) slot {
	if at, there := c.findLocal(name); there {
		return slot{at: at}
	}
	g := c.names[name.text].global
	if g == nil || g.array {
		c.giveUp(api.ErrLangName, name.place)
		return slot{}
	}
	return slot{global: true, at: g.at}
}

// array finds what a name stands for that is used as an array.
func (c *checker) array(name token) *global {
	g := c.names[name.text].global
	if _, hidden := c.findLocal(name); hidden || g == nil || !g.array {
		c.giveUp(api.ErrLangName, name.place)
	}
	return g
}
