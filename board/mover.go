package board

// A move: its bytes; in how many cycles it begins, once it is asked for; from which v on another one is taken for it.
const (
	moveSize  = 160
	moveWait  = 2
	pageSize  = 256
	pagesEnd  = 0xe0
	pagesBack = 0x20
)

// mover is what moves bytes into the table of sprites, as a state tells it.
type mover struct {
	written byte
	left    byte // bytes of the move that goes on
	from    byte // where these come from, as it was written
	wait    byte // cycles until the move begins that is asked for
	next    byte // where that comes from
}

func (b *Board) readMover(addr int) int {
	return int(b.mover.written)
}

func (b *Board) writeMover(addr int, v int) {
	b.mover.ask(byte(v))
}

func (m *mover) ask(v byte) {
	m.written, m.wait, m.next = v, moveWait, v
}

// start tells the address of a move's first byte.
func (m *mover) start() int {
	page := int(m.from)
	if page >= pagesEnd {
		page -= pagesBack
	}
	return page * pageSize
}

// passed counts a byte that was moved.
func (m *mover) passed() {
	m.left--
	if m.left == 0 {
		m.from = 0
	}
}

// endCycle lets the move begin that was asked for, when its time has come.
func (m *mover) endCycle() {
	if m.wait == 0 {
		return
	}
	m.wait--
	if m.wait == 0 {
		m.left, m.from, m.next = moveSize, m.next, 0
	}
}

// mayBe tells whether a state may tell this.
func (m *mover) mayBe() bool {
	if m.left > moveSize || m.wait > moveWait {
		return false
	}
	return (m.left > 0 || m.from == 0) && (m.wait > 0 || m.next == 0)
}

// move moves a byte, if one is due, and tells whether it did.
func (b *Board) move() bool {
	if b.mover.left == 0 {
		return false
	}
	i := moveSize - int(b.mover.left)
	b.picture.Dma(i, b.source(b.mover.start()+i))
	b.mover.passed()
	return true
}

// source tells what the mover reads: of the picture's memory also what is locked.
func (b *Board) source(addr int) int {
	if addr >= romEnd && addr < vramEnd {
		return b.picture.Memory(addr)
	}
	return b.read(addr)
}
