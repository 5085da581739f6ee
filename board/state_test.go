package board_test

import (
	"slices"
	"testing"

	"arcade/api"
	"arcade/board"
	"arcade/cpu"
	"arcade/ports"
	"arcade/ppu"
)

// Where the parts stand in what is cut of a state.
const (
	ofProcessor = iota
	ofCartridge
	ofPorts
	ofPicture
	ofWork
	ofSound
	ofHigh
	ofLet
	ofMover
)

// cut is a state in pieces.
func cut(t *testing.T, state []byte) [][]byte {
	t.Helper()
	var parts [][]byte
	for range 4 {
		if len(state) < 3 {
			t.Fatal("B5: a state ends within a length")
		}
		n := int(state[0]) + 256*int(state[1]) + 65536*int(state[2])
		if len(state) < 3+n {
			t.Fatalf("B5: a state ends within a part of %d bytes", n)
		}
		parts, state = append(parts, slices.Clone(state[3:3+n])), state[3+n:]
	}
	for _, n := range []int{8192, 48, 127, 1, 5} {
		if len(state) < n {
			t.Fatalf("B5: a state ends within memory or mover")
		}
		parts, state = append(parts, slices.Clone(state[:n])), state[n:]
	}
	if len(state) != 0 {
		t.Fatalf("B5: a state has %d bytes too many", len(state))
	}
	return parts
}

// joined is a state of pieces; lengths are told of the first four.
func joined(parts [][]byte) []byte {
	var state []byte
	for i, part := range parts {
		if i < 4 {
			state = append(state, byte(len(part)), byte(len(part)/256), byte(len(part)/65536))
		}
		state = append(state, part...)
	}
	return state
}

// with is a state of which one piece is another one.
func with(t *testing.T, state []byte, which int, part []byte) []byte {
	t.Helper()
	parts := cut(t, state)
	parts[which] = part
	return joined(parts)
}

// refused looks that a board does not take a state, and nothing is changed.
func refused(t *testing.T, which string, b *board.Board, state []byte) {
	t.Helper()
	was, sent, frame, save := b.State(), b.Sent(), b.Frame(), b.Save()
	if e := b.Load(state); e != api.ErrBoardState {
		t.Errorf("B5: Load of %s = %d, want %d", which, e, api.ErrBoardState)
		return
	}
	if !slices.Equal(b.State(), was) || !slices.Equal(b.Sent(), sent) || !slices.Equal(b.Frame(), frame) || !slices.Equal(b.Save(), save) {
		t.Errorf("B5: Load of %s was refused, and has changed something", which)
	}
}

// TestB5Parts: the states of the four parts, each with its length, memory, mover: byte by byte.
func TestB5Parts(t *testing.T) {
	bytes := rich(t)
	b := made(t, bytes)
	parts := cut(t, b.State())
	for i, want := range [][]byte{
		cpu.New().State(), cartridge(t, bytes).State(), ports.New().State(), ppu.New().State(),
		make([]byte, 8192), make([]byte, 48), make([]byte, 127), make([]byte, 1), {255, 0, 0, 0, 0},
	} {
		if !slices.Equal(parts[i], want) {
			t.Errorf("B5: of a new board the piece %d has %d bytes, want %d, or others", i, len(parts[i]), len(want))
		}
	}
	if parts = cut(t, built(t, nil).State()); len(parts[ofCartridge]) != 0 {
		t.Errorf("B5: without a cartridge its part has %d bytes", len(parts[ofCartridge]))
	}
	for _, addr := range []int{0xc000, 0xc001, 0xdfff, 0xff10, 0xff3f, 0xff80, 0xfffe, 0xffff, 0xff46} {
		c := made(t, bytes)
		poke(t, c, addr, 0x99)
		parts := cut(t, c.State())
		which, at := ofWork, addr-work
		switch {
		case addr == mover:
			which, at = ofMover, 0
		case addr == let:
			which, at = ofLet, 0
		case addr >= high:
			which, at = ofHigh, addr-high
		case addr >= sound:
			which, at = ofSound, addr-sound
		}
		is(t, "B5: a byte in its place", parts[which][at], byte(0x99))
		was := cut(t, b.State())
		if which != ofMover {
			was[which][at] = 0x99
			if !slices.Equal(c.State(), joined(was)) {
				t.Errorf("B5: with another byte at %04x alone State tells more that is another", addr)
			}
		}
	}
}

// TestB5Lengths: of a cartridge whose RAM is great all three bytes of the length count.
func TestB5Lengths(t *testing.T) {
	for _, c := range []struct{ kind, ram byte }{{0, 0}, {9, 2}, {0x1b, 3}, {0x1b, 5}, {0x1b, 4}} {
		bytes := rom(t, c.kind, 0, c.ram, busy(t)...)
		b := made(t, bytes)
		run(t, b, 5000)
		state := b.State()
		parts := cut(t, state)
		is(t, "B5: bytes of the cartridge", len(parts[ofCartridge]), 5+map[byte]int{0: 0, 2: 8192, 3: 32768, 4: 131072, 5: 65536}[c.ram])
		is(t, "B5: bytes of a state", len(joined(parts)), len(state))
		same(t, "B5: behind Load", b, noted(t, b, load(t, made(t, bytes), state)))
	}
}

// noted has nothing sent on either side: what was sent is not in a state.
func noted(t *testing.T, a, b *board.Board) *board.Board {
	t.Helper()
	is(t, "B5: bytes that were sent, behind Load", len(b.Sent()), 0)
	load(t, a, a.State())
	return b
}

// TestB5Mover: its five bytes, ahead of a move, in each cycle of it, and behind it; and with another one asked for.
func TestB5Mover(t *testing.T) {
	b := bare(t)
	poke(t, b, mover, 0xe7)
	is(t, "B5: the mover", tail(b), [5]byte{0xe7, 0, 0, 2, 0xe7})
	run(t, b, 1)
	is(t, "B5: the mover", tail(b), [5]byte{0xe7, 0, 0, 1, 0xe7})
	for left := 160; left > 0; left-- {
		run(t, b, 1)
		is(t, "B5: the mover", tail(b), [5]byte{0xe7, byte(left), 0xe7, 0, 0})
	}
	run(t, b, 1)
	is(t, "B5: the mover", tail(b), [5]byte{0xe7, 0, 0, 0, 0})
	poke(t, b, mover, 1)
	run(t, b, 60)
	is(t, "B5: the mover", tail(b), [5]byte{1, 102, 1, 0, 0})
	poke(t, b, mover, 0)
	is(t, "B5: the mover", tail(b), [5]byte{0, 102, 1, 2, 0})
	run(t, b, 1)
	is(t, "B5: the mover", tail(b), [5]byte{0, 101, 1, 1, 0})
	run(t, b, 1)
	is(t, "B5: the mover", tail(b), [5]byte{0, 160, 0, 0, 0})
	run(t, b, 159)
	is(t, "B5: the mover", tail(b), [5]byte{0, 1, 0, 0, 0})
	poke(t, b, mover, 5)
	is(t, "B5: the mover", tail(b), [5]byte{5, 1, 0, 2, 5})
	run(t, b, 1)
	is(t, "B5: the mover", tail(b), [5]byte{5, 0, 0, 1, 5})
	run(t, b, 1)
	is(t, "B5: the mover", tail(b), [5]byte{5, 160, 5, 0, 0})
	onHigh(t, b, api.Regs{A: 9}, "ldh [$ff46], a")
	run(t, b, 3)
	is(t, "B5: the mover, behind the processor's write", tail(b), [5]byte{9, 157, 5, 1, 9})
	run(t, b, 1)
	is(t, "B5: the mover", tail(b), [5]byte{9, 160, 9, 0, 0})
}

// TestB5MoverLoads: of the mover's bytes those are refused that may not be; what is taken goes on as it says.
func TestB5MoverLoads(t *testing.T) {
	b := filled(t)
	start := b.State()
	for _, left := range []byte{0, 1, 2, 159, 160, 161, 255} {
		for _, from := range []byte{0, 1, 0xc1, 255} {
			for _, wait := range []byte{0, 1, 2, 3, 128, 255} {
				for _, next := range []byte{0, 1, 0xc1, 0xc2, 255} {
					for _, written := range []byte{0, 0xc1, 0xc2, 255} {
						bytes := []byte{written, left, from, wait, next}
						state := with(t, start, ofMover, bytes)
						if left > 160 || wait > 2 || left == 0 && from != 0 || wait == 0 && next != 0 {
							if left == 161 || wait == 3 || written == 0 {
								refused(t, "a mover that may not be", b, state)
							}
							continue
						}
						if e := b.Load(state); e == api.OK && tail(b) != [5]byte(bytes) || e != api.OK && e != api.ErrBoardState {
							t.Fatalf("B5: Load of the mover %v = %d, and State tells %v", bytes, e, tail(b))
						}
						load(t, b, start)
					}
				}
			}
		}
	}
	for left := range 161 { // from 0xc1, nothing else
		state := with(t, start, ofMover, []byte{0xc1, byte(left), 0xc1 * byte(min(left, 1)), 0, 0})
		load(t, b, state)
		run(t, b, left)
		for i := range 160 {
			want := 0xee
			if i >= 160-left {
				want = pageByte(0xc1, i)
			}
			peeks(t, "B5: a move that was loaded", b, oam+i, want)
		}
		run(t, b, 1)
		is(t, "B5: the mover", tail(b), [5]byte{0xc1})
	}
	for wait := 1; wait < 3; wait++ {
		load(t, b, with(t, start, ofMover, []byte{0xc2, 9, 0xc1, byte(wait), 0xc2}))
		run(t, b, wait)
		peeks(t, "B5: one that goes on", b, oam+151, pageByte(0xc1, 151), oam+150+wait, pageByte(0xc1, 150+wait), oam+151+wait, 0xee)
		is(t, "B5: the mover", tail(b), [5]byte{0xc2, 160, 0xc2, 0, 0})
		run(t, b, 160)
		holds(t, "B5: one that is asked for", b, 0, 0, 0xc2, 160)
	}
}

// TestB5Ends: states that are too short, by whatever number of bytes, or too long.
func TestB5Ends(t *testing.T) {
	b := made(t, rich(t, busy(t)...))
	run(t, b, 3000)
	state := b.State()
	run(t, b, 1234)
	refused(t, "nil", b, nil)
	for n := 0; n < len(state); n++ {
		if n > 50 && n < len(state)-50 && n%997 != 0 {
			continue
		}
		refused(t, "less", b, state[:n])
	}
	for n := 1; n < 300; n += n {
		refused(t, "more", b, append(slices.Clone(state), make([]byte, n)...))
		refused(t, "more ahead", b, append(make([]byte, n), state...))
	}
	refused(t, "itself twice", b, append(slices.Clone(state), state...))
	turned := slices.Clone(state)
	slices.Reverse(turned)
	refused(t, "itself from behind", b, turned)
	for _, n := range []int{1, 8368, 8373, 8376, 8385, len(state)} {
		refused(t, "zeros", b, make([]byte, n))
		refused(t, "bytes 255", b, slices.Repeat([]byte{255}, n))
	}
	load(t, b, state)
}

// TestB5LengthBytes: each byte of a length with each other value.
func TestB5LengthBytes(t *testing.T) {
	b := made(t, rom(t, 0, 0, 0, busy(t)...))
	run(t, b, 3000)
	state := b.State()
	at := 0
	for _, part := range cut(t, state)[:4] {
		for i := range 3 {
			for v := range 256 {
				other := slices.Clone(state)
				other[at+i] = byte(v)
				if v != int(state[at+i]) && b.Load(other) != api.ErrBoardState {
					t.Fatalf("B5: a length of which the byte %d is %d is taken", i, v)
				}
			}
		}
		at += 3 + len(part)
	}
	if !slices.Equal(b.State(), state) {
		t.Error("B5: lengths that were refused have changed something")
	}
}

// TestB5OwnParts: a part that does not take its own state, while all others would take theirs; and nothing of these is changed.
func TestB5OwnParts(t *testing.T) {
	bytes := rich(t, busy(t)...)
	b := made(t, bytes)
	run(t, b, 3000)
	state := b.State()
	run(t, b, 2345)
	parts := cut(t, state)
	bad := map[int][][]byte{
		ofProcessor: nil,
		ofCartridge: {changed(parts[ofCartridge], 0, 2), changed(parts[ofCartridge], 4, 1), make([]byte, 5), make([]byte, 5+8192), make([]byte, 5+131072)},
		ofPorts:     {changed(parts[ofPorts], 1, 1), changed(parts[ofPorts], 9, 32), changed(parts[ofPorts], 18, 1)},
		ofPicture:   nil,
	}
	for which := ofProcessor; which <= ofPicture; which++ {
		whole := parts[which]
		list := append(bad[which], nil, whole[:1], whole[:len(whole)-1], whole[1:], append(slices.Clone(whole), 0), append([]byte{0}, whole...), slices.Repeat([]byte{255}, len(whole)))
		for i, other := range list {
			if slices.Equal(other, whole) {
				t.Fatalf("a state that should be bad is none: %d of the part %d", i, which)
			}
			refused(t, "a bad part", b, with(t, state, which, other))
		}
	}
	swapped := cut(t, state)
	swapped[ofPorts], swapped[ofProcessor] = swapped[ofProcessor], swapped[ofPorts]
	refused(t, "parts that are exchanged", b, joined(swapped))
	// A mover that may not be stands behind all parts, which would all take their own.
	refused(t, "a bad mover", b, with(t, state, ofMover, []byte{0, 161, 0, 0, 0}))
	load(t, b, state)
}

// changed is a copy with another byte.
func changed(list []byte, at int, v byte) []byte {
	other := slices.Clone(list)
	other[at] = v
	return other
}

// TestB5Bytes: a state with any byte changed is refused, or is some board, that tells the same bytes.
func TestB5Bytes(t *testing.T) {
	bytes := rom(t, 9, 0, 2, busy(t)...)
	b := made(t, bytes)
	run(t, b, 3003)
	state := b.State()
	parts := cut(t, state)
	start := len(parts[ofProcessor]) + 3
	for at := 0; at < len(state); at++ {
		if at > start+40 && at < len(state)-20 && at%127 != 0 {
			continue
		}
		for _, flip := range []byte{1, 0x10, 0x80, 0xff} {
			other := changed(state, at, state[at]^flip)
			b := made(t, bytes)
			was := b.State()
			switch e := b.Load(other); e {
			case api.OK:
				was = other
			case api.ErrBoardState:
			default:
				t.Fatalf("B5: Load with another byte at %d = %d", at, e)
			}
			if !slices.Equal(b.State(), was) {
				t.Fatalf("B5: with another byte at %d Load takes or refuses it, and State tells others", at)
			}
			run(t, b, 50)
		}
	}
}

// TestB5Memory: each byte of WORK, SOUND, HIGH and LET is loaded to its place.
func TestB5Memory(t *testing.T) {
	b := bare(t)
	parts := cut(t, b.State())
	for which := ofWork; which <= ofLet; which++ {
		for i := range parts[which] {
			parts[which][i] = pattern(which*1000 + i)
		}
	}
	state := joined(parts)
	load(t, b, state)
	for which, at := range map[int]int{ofWork: work, ofSound: sound, ofHigh: high, ofLet: let} {
		for i := range parts[which] {
			peeks(t, "B5", b, at+i, int(pattern(which*1000+i)))
		}
	}
	if !slices.Equal(b.State(), state) {
		t.Error("B5: State behind Load tells others")
	}
}

// TestB5Kinds: a state for another kind of cartridge, or for none, is refused.
func TestB5Kinds(t *testing.T) {
	kinds := [][3]byte{{0, 0, 0}, {1, 0, 0}, {5, 0, 0}, {9, 0, 2}, {3, 0, 2}, {3, 0, 3}, {0x1b, 0, 4}, {0x1b, 0, 5}}
	var boards []*board.Board
	var states [][]byte
	for _, k := range kinds {
		b := made(t, rom(t, k[0], k[1], k[2]))
		poke(t, b, 0, 10, 0x2000, 2)
		boards, states = append(boards, b), append(states, b.State())
	}
	boards, states = append(boards, built(t, nil)), append(states, built(t, nil).State())
	for i, b := range boards {
		for j, state := range states {
			if i != j {
				refused(t, "another kind", b, state)
			}
		}
		load(t, b, states[i])
	}
	// Of the same kind, with another ROM: the ROM is not in it.
	other := rom(t, 9, 0, 2, "org $150\nnop\n")
	load(t, made(t, other), states[3])
}

// TestB5Sent: what was sent is not in a state: behind Load there is nothing; behind one that is refused it is still there.
func TestB5Sent(t *testing.T) {
	b := game(t, "org $150\nld a, 9\nldh [$ff01], a\nld a, $81\nldh [$ff02], a\nloop: jr loop\n")
	run(t, b, 1100)
	state := b.State()
	refused(t, "less", b, state[1:])
	refused(t, "a bad mover", b, with(t, state, ofMover, []byte{0, 0, 0, 3, 0}))
	if !slices.Equal(b.Sent(), []byte{9}) {
		t.Errorf("B5: Sent = %v, want 9", b.Sent())
	}
	load(t, b, state)
	is(t, "B5: bytes that were sent, behind Load", len(b.Sent()), 0)
}

// TestB5Lists: a state that is handed in is not changed, its room neither, and not kept; what comes out is new memory.
func TestB5Lists(t *testing.T) {
	bytes := rich(t, busy(t)...)
	a := made(t, bytes)
	run(t, a, 3333)
	state := a.State()
	for _, handed := range [][]byte{state, state[:len(state)-1], with(t, state, ofMover, []byte{0, 0, 0, 3, 0})} {
		list := roomy(handed)
		b := made(t, bytes)
		b.Load(list)
		if !spared(list, handed) {
			t.Error("B5: Load has changed what was handed in, or its room")
		}
		was := b.State()
		scratch(list)
		if !slices.Equal(b.State(), was) {
			t.Error("B5: Load has kept what was handed in")
		}
		run(t, b, 100)
	}
	scratch(a.State())
	if !slices.Equal(a.State(), state) {
		t.Error("B5: what State told is not new memory")
	}
}
