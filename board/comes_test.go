package board_test

import (
	"math/rand"
	"slices"
	"sync"
	"testing"

	"arcade/api"
	"arcade/board"
)

// TestB6Cuts: a run that is cut in any way is the same run.
func TestB6Cuts(t *testing.T) {
	r := rand.New(rand.NewSource(61))
	for _, bytes := range programs(t) {
		whole := made(t, bytes)
		run(t, whole, 20000)
		for range 3 {
			b := made(t, bytes)
			for left := 20000; left > 0; {
				n := min(left, r.Intn(1<<r.Intn(13)))
				run(t, b, n)
				left -= n
			}
			same(t, "B6: a run that was cut", whole, b)
		}
	}
}

// TestB6Loads: a run that goes on in another board, by State and Load, in the midst of whatever it was doing.
func TestB6Loads(t *testing.T) {
	r := rand.New(rand.NewSource(62))
	inInstruction, inMove, waiting := 0, 0, 0
	for _, bytes := range programs(t) {
		whole := made(t, bytes)
		run(t, whole, 20000)
		b := made(t, bytes)
		for left := 20000; left > 0; {
			n := min(left, 1+r.Intn(160))
			run(t, b, n)
			left -= n
			state := b.State()
			if !b.Boundary() {
				inInstruction++
			}
			if tail(b)[1] > 0 {
				inMove++
			}
			if tail(b)[3] > 0 {
				waiting++
			}
			next := made(t, bytes)
			run(t, next, r.Intn(20)) // it was at something else
			b = load(t, next, state)
			if !slices.Equal(b.State(), state) {
				t.Fatal("B6: State behind Load tells other bytes")
			}
		}
		same(t, "B6: a run with State and Load between", noSent(t, whole), b)
	}
	if inInstruction < 100 || inMove < 100 || waiting == 0 {
		t.Errorf("B6: only %d states were told in the midst of an instruction, %d of a move, %d ahead of one", inInstruction, inMove, waiting)
	}
}

// noSent loads a board's own state: then it has sent nothing.
func noSent(t *testing.T, b *board.Board) *board.Board {
	t.Helper()
	return load(t, b, b.State())
}

// TestB6EachCycle: from the state of each cycle of some instructions, a dispatch and a move another board goes on as one that was never cut.
func TestB6EachCycle(t *testing.T) {
	bytes := rom(t, 0x13, 0, 2, asking(t)...)
	whole, other := made(t, bytes), made(t, bytes)
	run(t, whole, 900) // the program lies in HIGH
	for i := range 400 {
		run(t, whole, 1)
		load(t, other, whole.State())
		run(t, other, 30)
		ahead := made(t, bytes)
		run(t, ahead, 900+i+1+30)
		if !slices.Equal(other.State(), ahead.State()) {
			t.Fatalf("B6: loaded behind %d cycles, a board goes on otherwise", 900+i+1)
		}
	}
	ahead := made(t, bytes)
	run(t, ahead, 900+400)
	same(t, "B6: a board that tells its state in each cycle", whole, ahead)
}

// TestB6Back: a board that is loaded back goes on from there as it did.
func TestB6Back(t *testing.T) {
	for _, bytes := range programs(t) {
		b := made(t, bytes)
		run(t, b, 3001)
		back := b.State()
		run(t, b, 2500)
		then, frame, save := b.State(), b.Frame(), b.Save()
		load(t, b, back)
		run(t, b, 2500)
		if !slices.Equal(b.State(), then) || !slices.Equal(b.Frame(), frame) || !slices.Equal(b.Save(), save) {
			t.Error("B6: loaded back, a board goes on otherwise")
		}
	}
}

// TestB6Two: what two boards do has nothing to do with one another: by turns, and at the same time.
func TestB6Two(t *testing.T) {
	bytes := programs(t)
	var alone, turns, beside []*board.Board
	for _, p := range bytes {
		alone, turns, beside = append(alone, made(t, p)), append(turns, made(t, p)), append(beside, made(t, p))
		run(t, alone[len(alone)-1], 6000)
	}
	for range 60 {
		for _, b := range turns {
			run(t, b, 100)
		}
	}
	var all sync.WaitGroup
	for _, b := range beside {
		all.Go(func() { b.Run(6000) })
	}
	all.Wait()
	for i := range bytes {
		same(t, "B6: by turns", alone[i], turns[i])
		same(t, "B6: beside others", alone[i], beside[i])
	}
}

// TestB7Again: in the midst of runs, what is read from $e000 on is what is read from $c000 on.
func TestB7Again(t *testing.T) {
	for _, bytes := range programs(t) {
		b := made(t, bytes)
		for range 20 {
			run(t, b, 777)
			for i := range 0x1e00 {
				if b.Peek(echo+i) != b.Peek(work+i) {
					t.Fatalf("B7: Peek(%04x) = %d, and Peek(%04x) = %d", echo+i, b.Peek(echo+i), work+i, b.Peek(work+i))
				}
			}
		}
	}
}

// TestB7Moved: a program's move leaves in the table what stood where it came from.
func TestB7Moved(t *testing.T) {
	b := made(t, rom(t, 0, 0, 0, drawing, drawingAsks))
	whole := 0
	for range 40000 {
		b.Cycle()
		if !b.Boundary() || b.Regs().PC != drawingMoved {
			continue
		}
		whole++
		var want []byte
		for i := range 160 {
			want = append(want, byte(b.Peek(0xc100+i)))
		}
		if got := table(t, b); !slices.Equal(got, want) || got[0] != byte(whole-1) {
			t.Fatalf("B7: the table is %v, want %v", got, want)
		}
	}
	is(t, "B7: moves", whole, 2)
}

// TestB7Sums: programs in memory reckon what they mean: a sum of WORK, told in HIGH, by code that was copied to WORK itself.
func TestB7Sums(t *testing.T) {
	b := game(t, "org $150\nld sp, $fffe\nld hl, code\nld de, $e800\nld b, 20\ncopy: ld a, [hl+]\nld [de], a\ninc de\ndec b\njr nz, copy\ncall $c800\nhalt\ncode: ld hl, $c000\nld bc, $0000\nxor a, a\n.next: add a, [hl]\ninc l\njr nz, .next\nldh [$ff80], a\nret\n")
	sum := 0
	for i := range 256 {
		poke(t, b, work+i, i*i%251)
		sum += i * i % 251
	}
	poke(t, b, let, 0)
	for range 4000 {
		b.Cycle()
	}
	is(t, "B7: State", b.Regs().State, api.Halted)
	peeks(t, "B7: the sum", b, high, sum%256)
}

// TestB7Timer: the whole's fifth example: with 5 in CONTROL and 0 in AGAIN a request comes every 4096 clocks; a processor that is halted goes on at $0050 then.
func TestB7Timer(t *testing.T) {
	b := game(t, "org $150\nld sp, $d000\nld a, 4\nldh [$ffff], a\nxor a, a\nldh [$ff0f], a\nldh [$ff05], a\nldh [$ff06], a\nld a, 5\nldh [$ff07], a\nei\nloop: halt\njr loop\n", "org $50\ninc b\nldh a, [$ff04]\nreti\n")
	run(t, b, 2000)
	count := b.Regs().B
	for range 20 {
		run(t, b, 1024)
		count++
		is(t, "B7: interrupts of the timer", b.Regs().B, count)
	}
}
