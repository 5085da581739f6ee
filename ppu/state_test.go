package ppu_test

import (
	"math/rand"
	"slices"
	"testing"

	"arcade/api"
	"arcade/ppu"
)

// Where the parts of a state stand.
const (
	atControl = 0
	atStat    = 1
	atLine    = 4
	atDma     = 6
	atClock   = 12 // in machine cycles
	atMet     = 13
	atRows    = 14
	atVram    = 15
	atOam     = atVram + 8192
	atDrawn   = atOam + 160
	atShown   = atDrawn + points/4
	stateSize = atShown + points/4
	rowBytes  = 160 / 4
)

// mayBe tells, by the chapter's words, whether some calls lead to such a state.
func mayBe(s []byte) bool {
	if len(s) != stateSize || s[atStat]&0x87 != 0 || s[atDma] != 0 || s[atMet] > 1 {
		return false
	}
	line, cycle, rows, met := int(s[atLine]), int(s[atClock]), int(s[atRows]), s[atMet] == 1
	if s[atControl] < 128 {
		return line == 0 && cycle == 0 && rows == 0 && !met && slices.Max(s[atDrawn:]) == 0
	}
	if line > 153 || cycle > 113 {
		return false
	}
	made := line
	if cycle >= 63 {
		made++
	}
	looked := line > 0 || cycle >= 20
	if line > 143 { // the frame is over: nothing of it counts any more
		made, looked = 0, false
	}
	if met && !looked || rows > made || rows > 0 && !met {
		return false
	}
	undrawn := s[atDrawn+made*rowBytes : atShown]
	return len(undrawn) == 0 || slices.Max(undrawn) == 0
}

// states are some of all kinds: new, off, in each mode, with the window and without.
func states(t *testing.T) [][]byte {
	t.Helper()
	list := [][]byte{ppu.New().State(), dark().State()}
	for _, m := range moments {
		list = append(list, busy(t, m[0], m[1]).State())
	}
	p := busy(t, 60, 100)
	p.Write(lcdc, 0x73)
	list = append(list, p.State())
	p.Write(lcdc, 0xf3)
	return append(list, p.State(), at(t, ppu.New(), 90, 300).State())
}

// changed is a copy with other bytes at some places (a place and a byte each).
func changed(state []byte, list ...int) []byte {
	s := slices.Clone(state)
	for pair := range slices.Chunk(list, 2) {
		s[pair[0]] = byte(pair[1])
	}
	return s
}

// loads loads bytes: the picture is so, or nothing is changed.
func loads(t *testing.T, what string, p *ppu.PPU, state []byte) {
	t.Helper()
	was := p.State()
	e := p.Load(state)
	is := p.State()
	if mayBe(state) && (e != api.OK || !slices.Equal(is, state)) {
		t.Fatalf("G6: %s: Load = %d, or State tells other bytes", what, e)
	}
	if !mayBe(state) && (e != api.ErrPpuState || !slices.Equal(is, was)) {
		t.Fatalf("G6: %s: Load = %d, want %d, or something is changed", what, e, api.ErrPpuState)
	}
}

// TestG6Length: a state is at most 65536 bytes, always as many.
func TestG6Length(t *testing.T) {
	for i, state := range states(t) {
		if len(state) != stateSize || len(state) > 65536 {
			t.Errorf("G6: state %d has %d bytes, want %d", i, len(state), stateSize)
		}
		if !mayBe(state) {
			t.Errorf("G6: state %d: the test would have it refused: %v", i, state[:atVram])
		}
	}
}

// TestG6New: a new one's, written out.
func TestG6New(t *testing.T) {
	want := make([]byte, stateSize)
	want[atControl], want[7], want[8], want[9] = 145, 252, 255, 255
	if !slices.Equal(ppu.New().State(), want) {
		t.Errorf("G6: a new one tells %v", ppu.New().State()[:atVram])
	}
}

// TestG6Goes: behind Load it goes on as the one that told the state, from each moment on, whatever it was ahead of that.
func TestG6Goes(t *testing.T) {
	others := states(t)
	for i, state := range others {
		p := loaded(t, state)
		q := loaded(t, others[(i+7)%len(others)])
		if e := q.Load(state); e != api.OK || !same(p, q) {
			t.Fatalf("G6: state %d: Load = %d, or it is not as the other one", i, e)
		}
		for n := range aFrame + 3*aLine {
			if n%5000 == 4000 {
				for _, b := range []*ppu.PPU{p, q} {
					write(b, wx, n%200, bgp, n%256, vram+n%8192, n, lcdc, 0xf3-n%4, oam+n%160, n)
				}
			}
			if a, b := p.Tick(), q.Tick(); a != b {
				t.Fatalf("G6: state %d: Tick %d asks for %d, want %d", i, n, b, a)
			}
		}
		if !same(p, q) {
			t.Fatalf("G6: state %d: it goes another way", i)
		}
	}
}

// TestG6Busy: Load makes it as the one that was never told, not only as another one of the same bytes.
func TestG6Busy(t *testing.T) {
	for _, m := range moments {
		p := busy(t, m[0], m[1])
		q := loaded(t, p.State())
		stands(t, "G6", q, m[0], m[1])
		for range aFrame {
			if p.Tick() != q.Tick() {
				t.Fatalf("G6: from %v on they ask for different things", m)
			}
		}
		if !same(p, q) {
			t.Fatalf("G6: from %v on they differ", m)
		}
	}
}

// TestG6Alike: two that were used alike tell the same bytes, at each Tick.
func TestG6Alike(t *testing.T) {
	p, q := busy(t, 140, 0), busy(t, 140, 0)
	for range 12 * aLine {
		p.Tick()
		q.Tick()
		if !slices.Equal(p.State(), q.State()) {
			t.Fatal("G6: two that were used alike tell different bytes")
		}
	}
}

// TestG6Head: each byte of the registers and of the time, each value.
func TestG6Head(t *testing.T) {
	for i, state := range states(t) {
		if i%5 != 0 {
			continue
		}
		p := busy(t, 33, 80)
		for _, place := range []int{atControl, atStat, atLine, atDma, atClock, atMet, atRows} {
			for v := range 256 {
				loads(t, "a byte of the head", p, changed(state, place, v))
			}
		}
		for place := range atVram {
			loads(t, "a byte of the head", p, changed(state, place, int(state[place])^1))
			loads(t, "a byte of the head", p, changed(state, place, int(state[place])^128))
		}
	}
}

// TestG6EachByte: each byte changed, from a state in the midst of a frame, at its end, and off.
func TestG6EachByte(t *testing.T) {
	p := busy(t, 33, 80)
	off := busy(t, 3, 3*4)
	off.Write(lcdc, 0)
	for i, state := range [][]byte{busy(t, 71, 252).State(), busy(t, 144, 0).State(), off.State()} {
		for place := i; place < stateSize; place += 7 {
			loads(t, "a byte", p, changed(state, place, int(state[place])^(1<<(place/7%8))))
		}
	}
}

// TestG6Times: the line, the clock, rows and met together.
func TestG6Times(t *testing.T) {
	r := rand.New(rand.NewSource(67))
	all := states(t)
	p := busy(t, 33, 80)
	lines := []int{0, 0, 1, 2, 71, 142, 143, 144, 145, 152, 153, 154, 255}
	cycles := []int{0, 1, 18, 19, 20, 21, 61, 62, 63, 64, 112, 113, 114, 255}
	for range 6000 {
		line := lines[r.Intn(len(lines))]
		rows := []int{0, 1, line - 1, line, line + 1, line + 2, r.Intn(256)}[r.Intn(7)]
		state := all[r.Intn(len(all))]
		loads(t, "times", p, changed(state, atLine, line, atClock, cycles[r.Intn(len(cycles))], atMet, r.Intn(2), atRows, rows))
	}
}

// TestG6Undrawn: points of lines that are drawn may be any; of others they are 0.
func TestG6Undrawn(t *testing.T) {
	fresh := ppu.New().State()
	p := busy(t, 33, 80)
	for _, m := range moments {
		for _, row := range []int{0, m[0] - 1, m[0], m[0] + 1, 143} {
			if row < 0 || row > 143 {
				continue
			}
			for _, place := range []int{0, rowBytes - 1} {
				for _, v := range []int{1, 128} {
					loads(t, "points", p, changed(fresh, atLine, m[0], atClock, m[1]/4, atDrawn+row*rowBytes+place, v))
				}
			}
		}
	}
}

// TestG6Sound: whatever is taken is some picture: points 0 to 3, a line and a clock that may be, rows of the window no more than lines drawn; and it goes on.
func TestG6Sound(t *testing.T) {
	r := rand.New(rand.NewSource(68))
	base := counted()
	write(base, wx, 7, lcdc, 0xf1)
	at(t, base, 30, 40)
	state := base.State()
	taken := 0
	for range 3000 {
		s := changed(state, atLine, r.Intn(160), atClock, r.Intn(116), atMet, r.Intn(2), atRows, r.Intn(160))
		for place := atDrawn; place < atShown; place++ {
			s[place] = 0
		}
		p := ppu.New()
		if p.Load(s) != api.OK {
			continue
		}
		taken++
		line, clock := p.Line()
		if line > 153 || clock > 455 || slices.Max(p.Frame()) > 3 {
			t.Fatalf("G6: taken: line %d, clock %d", line, clock)
		}
		if line > 142 {
			continue
		}
		next := line
		if clock >= 252 {
			next++
		}
		ticks(p, toBlank-line*aLine-clock/4)
		if got := rowAt(t, p.Frame(), 0, next); got > next {
			t.Fatalf("G6: taken: line %d has the window's row %d", next, got)
		}
	}
	if taken < 100 {
		t.Errorf("G6: only %d of such states are taken", taken)
	}
}

// TestG6Lengths: states that are cut, too long, or turned.
func TestG6Lengths(t *testing.T) {
	p := busy(t, 33, 80)
	state := busy(t, 71, 252).State()
	for _, n := range []int{0, 1, 2, 14, 15, 16, 100, 8192, atOam, atDrawn, atShown, stateSize - 2, stateSize - 1} {
		loads(t, "cut", p, state[:n])
		loads(t, "cut ahead", p, state[stateSize-n:])
		loads(t, "zeros", p, make([]byte, n))
	}
	for _, n := range []int{1, 2, 3, 4, 100, 5760, 23040, 65536 - stateSize, 65537 - stateSize, 100000} {
		loads(t, "too long", p, append(slices.Clone(state), make([]byte, n)...))
	}
	turned := slices.Clone(state)
	slices.Reverse(turned)
	loads(t, "turned", p, turned)
	loads(t, "none", p, nil)
	loads(t, "full", p, slices.Repeat([]byte{255}, stateSize))
	loads(t, "zeros", p, make([]byte, stateSize))
}

// TestG6In: a state that is handed in is not written into, nor kept, taken or refused.
func TestG6In(t *testing.T) {
	good := busy(t, 71, 252).State()
	for _, state := range [][]byte{good, good[:stateSize-1], append(slices.Clone(good), 0), changed(good, atStat, 255), changed(good, atRows, 200), {}} {
		p, q := busy(t, 9, 0), busy(t, 9, 0)
		list := roomy(state)
		if e := p.Load(list); e != q.Load(slices.Clone(state)) {
			t.Errorf("G6: Load hangs on what lies behind: %d", e)
		}
		for _, b := range []*ppu.PPU{p, q} {
			ticks(b, 60)
			write(b, bgp, 5, vram, 6)
			b.Dma(3, 9)
		}
		if !spared(list, state) {
			t.Error("G6: Load wrote into the state")
		}
		scratch(list)
		ticks(p, aFrame)
		ticks(q, aFrame)
		if !same(p, q) {
			t.Error("G6: Load kept the state")
		}
	}
}

// TestG6Out: a state that was told is new memory, its spare room too.
func TestG6Out(t *testing.T) {
	p, q := busy(t, 71, 248), busy(t, 71, 248)
	told := p.State()
	was := slices.Clone(told)
	scratch(p.State())
	scratch(p.State())
	ticks(p, 2*aFrame)
	ticks(q, 2*aFrame)
	if !slices.Equal(told, was) || !same(p, q) {
		t.Error("G6: a state that was told is not new memory")
	}
}

// TestG6Off: Load brings back a picture that was off, and one that was on, from the other.
func TestG6Off(t *testing.T) {
	on := busy(t, 71, 252)
	off := busy(t, 71, 252)
	off.Write(lcdc, 0x73)
	p := loaded(t, on.State())
	for range 2 {
		for _, q := range []*ppu.PPU{off, on} {
			if e := p.Load(q.State()); e != api.OK || !same(p, q) {
				t.Fatalf("G6: Load = %d, or it is not as the other one", e)
			}
		}
	}
}
