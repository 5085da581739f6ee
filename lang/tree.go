package lang

// program is a source that was read.
type program struct {
	parts     []part      // globals and functions, as they stand in the source
	functions []*function // by their numbers
	main      *function
	length    int // of the source
}

// part is a global or a function.
type part interface {
	declare(*checker)
	format(*writer)
}

// global is a variable, or an array, of the whole program.
type global struct {
	name  token
	array bool
	size  token // the number, of an array
	at    int   // which word of the globals is its first one
}

// words is how many words of the globals it has.
func (g *global) words() int {
	if g.array {
		return g.size.value
	}
	return 1
}

type function struct {
	name   token
	params []token
	body   block
	number int // among the functions
	locals int // how many parameters and variables it has
}

// block is the statements between two braces.
type block []statement

// statement is one of the kinds below.
type statement interface {
	check(*checker)
	format(*writer)
	act() act
	compile(*generator)
}

// expression is one of the kinds below; its row tells how tightly it binds.
type expression interface {
	row() int
	check(*checker)
	format(*writer)
	value() value
	compile(*generator)
}

// slot is where a variable is: which word of the globals, or which one of its function's parameters and variables.
type slot struct {
	global bool
	at     int
}

// The statements.
type (
	declaration struct {
		name  token
		value expression
		slot  slot
	}
	assignment struct {
		name  token
		value expression
		slot  slot
	}
	elementAssignment struct {
		element *element
		value   expression
	}
	callStatement struct {
		call *call
	}
	choice struct {
		condition expression
		then      block
		otherwise *choice // what stands behind else, if that is an if
		last      block   // or a block, if hasLast
		hasLast   bool
	}
	loop struct {
		condition expression
		body      block
	}
	blockStatement struct {
		body block
	}
	leap struct {
		word token // break or continue
	}
	giveBack struct {
		value expression // nil: it tells nothing
	}
	output struct {
		word  token
		value expression
	}
	printing struct {
		word token
		text token
	}
)

// The expressions.
type (
	number struct {
		token token
	}
	variable struct {
		name token
		slot slot
	}
	element struct {
		name  token
		index expression
		array *global
	}
	call struct {
		name      token
		arguments []expression
		function  *function
	}
	input struct {
		word token // in or left
	}
	ahead struct {
		sign token
		of   expression
	}
	between struct {
		operator    operator
		sign        token
		left, right expression
	}
)

// operator is a sign between two expressions: how tightly it binds; the machine's routine that reckons it, if one does.
type operator struct {
	sign    string
	row     int
	routine string
}

// rowLoosest binds least; rowTight is that of signs ahead, and of all that stands alone.
const (
	rowLoosest = 1
	rowTight   = 11
)

var operators = [...]operator{
	{"||", 1, ""},
	{"&&", 2, ""},
	{"|", 3, "either"},
	{"^", 4, "differ"},
	{"&", 5, "both"},
	{"==", 6, "same"}, {"!=", 6, "other"},
	{"<", 7, "below"}, {"<=", 7, "notabove"}, {">", 7, "above"}, {">=", 7, "notbelow"},
	{"<<", 8, "up"}, {">>", 8, "down"},
	{"+", 9, "plus"}, {"-", 9, "minus"},
	{"*", 10, "times"}, {"/", 10, "over"}, {"%", 10, "rest"},
}

// divides tells whether it is one behind which no 0 may stand.
func (o operator) divides() bool {
	return o.sign == "/" || o.sign == "%"
}

// operatorOf tells the operator that a token is, if it is one.
func operatorOf(t token) (operator, bool) {
	for _, o := range operators {
		if t.is(o.sign) {
			return o, true
		}
	}
	return operator{}, false
}

// The row of each expression.

func (*number) row() int    { return rowTight }
func (*variable) row() int  { return rowTight }
func (*element) row() int   { return rowTight }
func (*call) row() int      { return rowTight }
func (*input) row() int     { return rowTight }
func (*ahead) row() int     { return rowTight }
func (b *between) row() int { return b.operator.row }
