package board

// How many bytes the memory has of each kind.
const (
	workSize   = 8192
	soundSize  = 48
	highSize   = 127
	letSize    = 1
	memorySize = workSize + soundSize + highSize + letSize
)

// memory is what is read as it was written last.
type memory struct {
	work  [workSize]byte
	sound [soundSize]byte
	high  [highSize]byte
	let   byte
}

// readWork has two spans of addresses: both begin at a multiple of the size.
func (m *memory) readWork(addr int) int {
	return int(m.work[addr%workSize])
}

func (m *memory) writeWork(addr int, v int) {
	m.work[addr%workSize] = byte(v)
}

func (m *memory) readSound(addr int) int {
	return int(m.sound[addr-portsEnd])
}

func (m *memory) writeSound(addr int, v int) {
	m.sound[addr-portsEnd] = byte(v)
}

func (m *memory) readHigh(addr int) int {
	return int(m.high[addr-unusedEnd])
}

func (m *memory) writeHigh(addr int, v int) {
	m.high[addr-unusedEnd] = byte(v)
}

func (m *memory) readLet(addr int) int {
	return int(m.let)
}

func (m *memory) writeLet(addr int, v int) {
	m.let = byte(v)
}

// appendMemory tells it as bytes, behind those that are there.
func (m *memory) appendMemory(state []byte) []byte {
	state = append(state, m.work[:]...)
	state = append(state, m.sound[:]...)
	state = append(state, m.high[:]...)
	return append(state, m.let)
}

// loadMemory takes as many bytes as appendMemory tells.
func (m *memory) loadMemory(state []byte) {
	state = state[copy(m.work[:], state):]
	state = state[copy(m.sound[:], state):]
	state = state[copy(m.high[:], state):]
	m.let = state[0]
}
