package ports_test

import (
	"math/rand"
	"slices"
	"testing"

	"arcade/api"
	"arcade/ports"
)

// model is ports as the chapter's words tell them, a clock at a time.
type model struct {
	down             [8]bool
	row              [2]int // the row bits 4 and 5
	shift            int
	high, low        int // LINE's bits 7 and 0
	counter          int
	timer, again     int
	let, which       int // CONTROL's bit 2, and its bits 1 and 0
	asked            [5]bool
	alarm            int
	transfer, begins int
	sent             []byte
}

func newModel() *model {
	return &model{row: [2]int{1, 1}, counter: 171*256 + 204, asked: [5]bool{0: true}}
}

// key is the key bit i.
func (m *model) key(i int) int {
	if m.down[i] && m.row[0] == 0 || m.down[4+i] && m.row[1] == 0 {
		return 0
	}
	return 1
}

// keyed does a change of the buttons or the rows.
func (m *model) keyed(change func()) {
	var was [4]int
	for i := range was {
		was[i] = m.key(i)
	}
	change()
	for i := range was {
		if was[i] == 1 && m.key(i) == 0 {
			m.asked[4] = true
		}
	}
}

func (m *model) drive() int {
	switch m.which {
	case 0:
		return m.let * (m.counter / 512 % 2)
	case 1:
		return m.let * (m.counter / 8 % 2)
	case 2:
		return m.let * (m.counter / 32 % 2)
	}
	return m.let * (m.counter / 128 % 2)
}

// driven does a change of what drives the timer.
func (m *model) driven(change func()) {
	was := m.drive()
	change()
	if was == 0 || m.drive() == 1 {
		return
	}
	if m.timer < 255 {
		m.timer++
		return
	}
	m.timer, m.alarm = 0, 4
}

func (m *model) clock() {
	if m.alarm > 0 {
		m.alarm--
		if m.alarm == 0 {
			m.timer = m.again
			m.asked[2] = true
		}
	}
	m.driven(func() { m.counter = (m.counter + 1) % 65536 })
	if m.transfer > 0 {
		m.transfer--
		if m.transfer == 0 {
			m.sent = append(m.sent, byte(m.begins))
			m.sent = m.sent[max(0, len(m.sent)-256):]
			m.shift, m.high, m.begins = 255, 0, 0
			m.asked[3] = true
		}
	}
}

func (m *model) step(clocks int) {
	for range clocks {
		m.clock()
	}
}

func (m *model) write(address, v int) {
	switch address {
	case buttons:
		m.keyed(func() { m.row = [2]int{v / 16 % 2, v / 32 % 2} })
	case shift:
		m.shift = v
	case line:
		m.high, m.low = v/128, v%2
		m.transfer, m.begins = 0, 0
		if m.high+m.low == 2 {
			m.transfer, m.begins = 4096, m.shift
		}
	case divider:
		m.driven(func() { m.counter = 0 })
	case timer:
		m.timer, m.alarm = v, 0
	case again:
		m.again = v
	case control:
		m.driven(func() { m.let, m.which = v/4%2, v%4 })
	case requests:
		for i := range m.asked {
			m.asked[i] = v>>i%2 == 1
		}
	}
}

func (m *model) read(address int) int {
	switch address {
	case buttons:
		return 192 + m.rows() + m.key(0) + 2*m.key(1) + 4*m.key(2) + 8*m.key(3)
	case shift:
		return m.shift
	case line:
		return 126 + 128*m.high + m.low
	case divider:
		return m.counter / 256
	case timer:
		return m.timer
	case again:
		return m.again
	case control:
		return 248 + 4*m.let + m.which
	}
	return 224 + m.requests()
}

func (m *model) rows() int { return 16*m.row[0] + 32*m.row[1] }

func (m *model) requests() int {
	sum := 0
	for i, is := range m.asked {
		if is {
			sum += 1 << i
		}
	}
	return sum
}

func (m *model) press(v int) {
	m.keyed(func() {
		for i := range m.down {
			m.down[i] = v>>i%2 == 1
		}
	})
}

func (m *model) state() []byte {
	down := 0
	for i, is := range m.down {
		if is {
			down += 1 << i
		}
	}
	var state []byte
	for _, v := range []int{down, m.rows(), m.shift, 128*m.high + m.low, m.counter % 256, m.counter / 256, m.timer, m.again, 4*m.let + m.which, m.requests(), m.alarm, m.transfer % 256, m.transfer / 256, m.begins, 0, 0, 0, 0, 0} {
		state = append(state, byte(v))
	}
	return state
}

// load makes a model of a state that is one.
func (m *model) load(s []byte) {
	*m = model{row: [2]int{int(s[1]) / 16 % 2, int(s[1]) / 32}, shift: int(s[2]), high: int(s[3]) / 128, low: int(s[3]) % 2, counter: int(s[4]) + 256*int(s[5]), timer: int(s[6]), again: int(s[7]), let: int(s[8]) / 4, which: int(s[8]) % 4, alarm: int(s[10]), transfer: int(s[11]) + 256*int(s[12]), begins: int(s[13])}
	for i := range m.down {
		m.down[i] = s[0]>>i%2 == 1
	}
	m.write(requests, int(s[9]))
}

// as tells whether ports are as the model, in all that they tell.
func as(p *ports.Ports, m *model) bool {
	want := m.state()
	for _, address := range all {
		want = append(want, byte(m.read(address)))
	}
	want = append(want, byte(m.requests()))
	return slices.Equal(seen(p), want) && slices.Equal(p.Sent(), m.sent)
}

// act is one call, and what the model does of it.
type act struct {
	name string
	a, b int
}

func (c act) on(p *ports.Ports) api.Errno {
	switch c.name {
	case "step":
		return p.Step(c.a)
	case "write":
		return p.Write(c.a, c.b)
	case "press":
		return p.Press(c.a)
	case "raise":
		return p.Raise(c.a)
	case "take":
		return p.Take(c.a)
	}
	return p.Load(p.State())
}

func (c act) onModel(m *model) {
	switch c.name {
	case "step":
		m.step(c.a)
	case "write":
		m.write(c.a, c.b)
	case "press":
		m.press(c.a)
	case "raise":
		m.asked[c.a] = true
	case "take":
		m.asked[c.a] = false
	default:
		m.load(m.state())
	}
}

// anyAct is one; those that make much happen come often.
func anyAct(r *rand.Rand) act {
	switch r.Intn(14) {
	case 0:
		return act{"press", r.Intn(256), 0}
	case 1:
		return act{"raise", r.Intn(5), 0}
	case 2:
		return act{"take", r.Intn(5), 0}
	case 3:
		if r.Intn(40) == 0 {
			return act{"load", 0, 0}
		}
		return act{"write", line, []int{129, 128, 1, 0, 255, 129}[r.Intn(6)]}
	case 4:
		return act{"write", timer, []int{255, 254, 255, 253, 0}[r.Intn(5)]}
	case 5:
		return act{"write", control, 4 + r.Intn(4)}
	case 6, 7:
		return act{"write", all[r.Intn(len(all))], r.Intn(256)}
	case 8:
		return act{"step", r.Intn(6000), 0}
	case 9:
		return act{"step", []int{0, 4095, 4096, 4097, 1023, 1024, 1025, 256, 15, 16}[r.Intn(10)], 0}
	}
	return act{"step", r.Intn(20), 0}
}

// TestP52Model: long runs of all calls are, call by call, as the chapter's words say.
func TestP52Model(t *testing.T) {
	for seed := range int64(40) {
		r := rand.New(rand.NewSource(seed))
		p, m := ports.New(), newModel()
		for i := range 700 {
			c := anyAct(r)
			do(t, c.name, c.on(p))
			c.onModel(m)
			if !as(p, m) {
				t.Fatalf("P5.2: run %d, call %d, %v: %v, sent %v, want %v, %v", seed, i, c, seen(p), p.Sent(), m.state(), m.sent)
			}
		}
	}
}

// TestP52Great: steps of very many clocks.
func TestP52Great(t *testing.T) {
	for _, clocks := range []int{65535, 65536, 65537, 131072, 262144, 999999, 1000000} {
		for i, state := range states(t) {
			p, m := loaded(t, state), newModel()
			m.load(state)
			step(t, p, clocks)
			m.step(clocks)
			if !as(p, m) {
				t.Errorf("P5.2: state %d, Step(%d): %v, want %v", i, clocks, p.State(), m.state())
			}
		}
	}
}
