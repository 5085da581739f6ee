package ports_test

import (
	"math"
	"slices"
	"testing"

	"arcade/api"
	"arcade/ports"
)

// The addresses.
const (
	buttons  = 65280
	shift    = 65281
	line     = 65282
	divider  = 65284
	timer    = 65285
	again    = 65286
	control  = 65287
	requests = 65295
)

// all are the ports.
var all = []int{buttons, shift, line, divider, timer, again, control, requests}

// far are numbers that are beyond all bounds.
var far = []int{math.MinInt, math.MinInt + 65280, math.MinInt32, -65536, -65280, -257, -256, 1<<32 + 1, 1<<32 + 65284, 1<<40 + 65281, math.MaxInt32, math.MaxInt - 255, math.MaxInt}

// Where the parts of a state stand.
const (
	atButtons  = 0
	atRows     = 1
	atShift    = 2
	atLine     = 3
	atCounter  = 4
	atTimer    = 6
	atAgain    = 7
	atControl  = 8
	atRequests = 9
	atAlarm    = 10
	atTransfer = 11
	atSending  = 13
	atLast     = 14
)

func do(t *testing.T, what string, e api.Errno) {
	t.Helper()
	if e != api.OK {
		t.Fatalf("P5.2: %s: %d", what, e)
	}
}

func step(t *testing.T, p *ports.Ports, clocks ...int) {
	t.Helper()
	for _, n := range clocks {
		do(t, "Step", p.Step(n))
	}
}

// write has an address and a value each.
func write(t *testing.T, p *ports.Ports, list ...int) {
	t.Helper()
	for pair := range slices.Chunk(list, 2) {
		do(t, "Write", p.Write(pair[0], pair[1]))
	}
}

// reads has an address and what is read there each.
func reads(t *testing.T, which string, p *ports.Ports, list ...int) {
	t.Helper()
	for pair := range slices.Chunk(list, 2) {
		if v, e := p.Read(pair[0]); v != pair[1] || e != api.OK {
			t.Errorf("%s: Read(%x) = %d, %d, want %d", which, pair[0], v, e, pair[1])
		}
	}
}

func asked(t *testing.T, which string, p *ports.Ports, want int) {
	t.Helper()
	if p.Requests() != want {
		t.Errorf("%s: Requests() = %d, want %d", which, p.Requests(), want)
	}
}

func press(t *testing.T, p *ports.Ports, down ...int) {
	t.Helper()
	for _, b := range down {
		do(t, "Press", p.Press(b))
	}
}

func take(t *testing.T, p *ports.Ports, request int) {
	t.Helper()
	do(t, "Take", p.Take(request))
}

// loaded are ports of a state.
func loaded(t *testing.T, state []byte) *ports.Ports {
	t.Helper()
	p := ports.New()
	if e := p.Load(state); e != api.OK {
		t.Fatalf("P5.4: Load(%v) = %d", state, e)
	}
	return p
}

// put makes ports be as a state says, with other bytes at some places (a place and a byte each).
func put(t *testing.T, p *ports.Ports, state []byte, list ...int) {
	t.Helper()
	s := changed(state, list...)
	if e := p.Load(s); e != api.OK {
		t.Fatalf("P5.4: Load(%v) = %d", s, e)
	}
}

// changed is a copy with other bytes at some places.
func changed(state []byte, list ...int) []byte {
	s := slices.Clone(state)
	for pair := range slices.Chunk(list, 2) {
		s[pair[0]] = byte(pair[1])
	}
	return s
}

// seen is all that ports tell, but for what was sent: the State, what is read at each port, Requests.
func seen(p *ports.Ports) []byte {
	told := p.State()
	for _, address := range all {
		v, _ := p.Read(address)
		told = append(told, byte(v))
	}
	return append(told, byte(p.Requests()))
}

// same tells whether two are alike, now.
func same(p, q *ports.Ports) bool {
	return slices.Equal(seen(p), seen(q)) && slices.Equal(p.Sent(), q.Sent())
}

// states are some in the midst of things: none of the clocks to go, an alarm, a transfer, both; with buttons, and rows of all kinds.
func states(t *testing.T) [][]byte {
	t.Helper()
	fresh := ports.New().State()
	return [][]byte{
		fresh,
		changed(fresh, atButtons, 255, atRows, 0, atShift, 1, atLine, 1, atTimer, 255, atAgain, 255, atControl, 5, atRequests, 31),
		changed(fresh, atButtons, 0x5a, atRows, 16, atCounter, 255, atCounter+1, 255, atTimer, 255, atAgain, 254, atControl, 4, atAlarm, 1),
		changed(fresh, atButtons, 0x81, atRows, 32, atCounter, 15, atTimer, 0, atAgain, 255, atControl, 5, atAlarm, 1, atRequests, 0),
		changed(fresh, atButtons, 0x10, atRows, 32, atCounter, 13, atTimer, 255, atAgain, 7, atControl, 5, atAlarm, 4, atRequests, 8),
		changed(fresh, atLine, 129, atShift, 77, atTransfer, 1, atSending, 66, atRequests, 2),
		changed(fresh, atLine, 129, atShift, 78, atCounter, 63, atTimer, 255, atControl, 6, atAlarm, 2, atTransfer, 1, atTransfer+1, 15, atSending, 255),
		changed(fresh, atLine, 129, atCounter, 127, atCounter+1, 1, atTimer, 128, atControl, 7, atTransfer, 0, atTransfer+1, 16),
		changed(fresh, atLine, 128, atCounter, 8, atTimer, 9, atControl, 1, atAlarm, 3),
	}
}

// roomy is a list with spare room, all of it filled.
func roomy(list []byte) []byte {
	long := append(slices.Clone(list), slices.Repeat([]byte{0xa5}, 40)...)
	return long[:len(list)]
}

// spared tells whether a roomy list is as it was, its room too.
func spared(list, was []byte) bool {
	return slices.Equal(list, was) && slices.Equal(list[len(list):len(list)+40], slices.Repeat([]byte{0xa5}, 40))
}

// scratch writes over a list and its spare room.
func scratch(list []byte) {
	whole := list[:cap(list)]
	for i := range whole {
		whole[i] ^= 0xff
	}
}
