package host_test

import (
	"math"
	"math/rand"
	"slices"
	"strconv"
	"testing"

	"arcade/api"
)

// TestH6Wrong: workers that may not be, ahead of that nobody is ready.
func TestH6Wrong(t *testing.T) {
	for _, most := range []int{1, 2, 7, 8} {
		r := made(t, with(plenty, func(c *api.HostConfig) { c.Workers = most }), 800)
		r.connects(1)
		for _, ready := range []bool{false, true} {
			for _, n := range append(far, 0, most+1, 9) {
				if l, e := r.Turn(n, nil, nil); len(l) != 0 || e != api.ErrArg {
					t.Errorf("H6: Turn(%d) of at most %d, somebody is ready: %v = %v, %d", n, most, ready, l, e)
				}
			}
			for n := 1; n <= most && !ready; n++ {
				if l, e := r.Turn(n, []int{1}, []int{1}); len(l) != 0 || e != api.ErrHostNone {
					t.Errorf("H6: Turn(%d) with nobody ready = %v, %d", n, l, e)
				}
			}
			if !ready {
				r.sends(0, opens(1, "a", idle()), runs(most))
			}
		}
		r.told(0, "opened 0")
		for n := 1; n <= most; n++ {
			r.turns(n, nil, 0, n)
		}
		r.noTurn()
		r.stands(1, 1, 38528, most)
	}
}

// TestH6None: sessions of which none has a Run that goes on.
func TestH6None(t *testing.T) {
	r := fresh(t, 4)
	r.sends(0, opens(1, "a", idle()))
	r.sends(1, opens(1, "a", idle()), runs(1))
	r.sends(2, opens(1, "a", idle()), runs(3))
	r.turns(8, nil, 1, 1, 2, 1)
	r.hang(2)
	r.noTurn()
	r.sends(1, keys(1), look)
	r.noTurn()
	r.sends(0, runs(1))
	r.turns(8, nil, 0, 1)
	r.noTurn()
}

// TestH6Round: whose turn it is: from the front of the round on; who opens a session is at its end, who runs anew is where it was.
func TestH6Round(t *testing.T) {
	r := fresh(t, 5)
	for _, i := range []int{3, 1, 4, 0} {
		r.sends(i, opens(1, "a", idle()), runs(4))
	}
	r.turns(1, nil, 3, 1)
	r.turns(2, nil, 1, 1, 4, 1)
	r.turns(3, nil, 0, 1, 3, 2, 1, 2)
	r.sends(2, opens(1, "a", idle()), runs(2))
	r.turns(1, nil, 4, 2)
	r.turns(8, nil, 0, 2, 3, 3, 1, 3, 2, 1, 4, 3)
	r.hang(3)
	r.connect(3)
	r.sends(3, opens(1, "a", idle()), runs(3)) // at the end now
	r.turns(2, nil, 0, 3, 1, 4)
	r.turns(3, nil, 2, 2, 4, 4, 3, 1)
	r.turns(8, nil, 0, 4, 3, 2)
	r.turns(8, nil, 3, 3)
	r.noTurn()
	for _, i := range []int{4, 0, 3, 2, 1} { // none has gone anywhere: the round is 1, 2, 4, 0, 3
		r.sends(i, runs(1))
	}
	r.turns(8, nil, 1, 5, 2, 3, 4, 5, 0, 5, 3, 4)
}

// TestH6Waiting: who is ready by what waited, behind its own turn, is in the round as before; who closes and opens is at its end.
func TestH6Waiting(t *testing.T) {
	r := fresh(t, 3)
	r.sends(0, opens(1, "a", idle()), runs(1), runs(2))
	r.sends(1, opens(1, "a", idle()), runs(1), closes, opens(1, "a", idle()), runs(2))
	r.sends(2, opens(1, "a", idle()), runs(4))
	r.turns(3, []int{1}, 1, 1, 0, 1, 2, 1) // 0, 2, 1
	r.turns(1, nil, 0, 2)
	r.turns(1, nil, 2, 2)
	r.turns(1, nil, 1, 1)
	r.turns(8, []int{-1}, 0, 3, 2, 3, 1, 2)
	r.turns(8, nil, 2, 4)
	r.told(1, "opened 0; frame 1; closed 1; opened 0; frame 1; frame 2")
}

// ending is the order in which so many turns end, by the document's words.
func ending(many int, order []int) []int {
	var left, ends []int
	for i := range many {
		left = append(left, i)
	}
	for i := range many {
		n := 0
		if i < len(order) {
			n = order[i]
		}
		if n < 0 {
			n = -(n + 1)
		}
		n %= len(left)
		ends = append(ends, left[n])
		left = append(slices.Clone(left[:n]), left[n+1:]...)
	}
	return ends
}

// TestH6Order: turns of one and of several workers that end in every order; orders that are empty, too short, too long, of numbers below 0, and beyond all bounds.
func TestH6Order(t *testing.T) {
	r := fresh(t, 8)
	for i := range 8 {
		r.sends(i, opens(1, "a", idle()), runs(600))
	}
	lot := rand.New(rand.NewSource(6))
	orders := [][]int{nil, {}, {0}, {math.MinInt, math.MaxInt, math.MinInt + 1, math.MaxInt - 1}, {-1, -2, -3, -4, -5, -6, -7, -8}, {7, 6, 5, 4, 3, 2, 1, 0, 9, 9, 9}, {8, 7, 6, 5, 4, 3, 2, 1}, {1, 1, 1, 1, 1, 1, 1, 1}}
	for a := range 4 { // all ends of four turns
		for b := range 3 {
			for c := range 2 {
				orders = append(orders, []int{a, b, c}, []int{a - 4, b - 3, c - 2})
			}
		}
	}
	for range 30 {
		var l []int
		for range lot.Intn(10) {
			l = append(l, int(lot.Uint64()))
		}
		orders = append(orders, l)
	}
	next := 0
	var frames [8]int
	for i, order := range orders {
		many := []int{4, 8, 3, 1, 4, 5}[i%6]
		if i >= 8 && i < 56 {
			many = 4
		}
		lent := roomy(order, 3)
		l, e := r.Turn(many, lent, nil)
		if !spared(lent, order, 3) {
			t.Error("H6: Turn writes into its order")
		}
		scratch(lent, 1)
		if e != api.OK || len(l) != many {
			t.Fatalf("H6: Turn(%d, %v) = %v, %d", many, order, l, e)
		}
		for k, at := range ending(many, order) {
			conn := (next + at) % 8
			frames[conn]++
			if want := (api.Turn{Conn: conn, Frame: frames[conn], Clocks: 70224}); l[k] != want {
				t.Errorf("H6: Turn(%d, %v): the %d-th to end is %+v, want %+v", many, order, k, l[k], want)
			}
		}
		next = (next + many) % 8
	}
}

// TestH6Fewer: fewer turns than workers, if fewer are ready; none has two of them at once.
func TestH6Fewer(t *testing.T) {
	r := fresh(t, 4)
	r.sends(0, opens(1, "a", idle()), runs(3))
	r.turns(8, []int{5, 5, 5}, 0, 1)
	r.sends(2, opens(1, "a", idle()), runs(1))
	r.turns(8, []int{1}, 2, 1, 0, 2)
	r.turns(8, nil, 0, 3)
}

// TestH6Frame: each turn is a frame of a console of its own, with its clocks.
func TestH6Frame(t *testing.T) {
	r := fresh(t, 3)
	roms := [][]byte{uneven(), rom(t, 3, 1, 2), idle()}
	for i, b := range roms {
		r.sends(i, opens(1, "a", b), keys(40*i), runs(6))
		r.told(i, "opened 0")
	}
	one, two, three := consoleOf(t, roms[0], nil), consoleOf(t, roms[1], nil), consoleOf(t, roms[2], nil)
	for n := range 6 {
		l, e := r.Turn(3, []int{2, 1}, nil)
		if e != api.OK || len(l) != 3 {
			t.Fatalf("H6: Turn = %v, %d", l, e)
		}
		f, _ := one.Frame(0)
		g, _ := two.Frame(40)
		h, _ := three.Frame(80)
		want := []api.Turn{{Conn: 2, Frame: n + 1, Clocks: h.Clocks}, {Conn: 1, Frame: n + 1, Clocks: g.Clocks}, {Conn: 0, Frame: n + 1, Clocks: f.Clocks}}
		if !slices.Equal(l, want) {
			t.Errorf("H6: turns %v, want %v", l, want)
		}
	}
}

// TestH6Life: a session is over with the frame that reaches its life; what waits is done then, without it.
func TestH6Life(t *testing.T) {
	for _, x := range []struct{ life, frames int }{{1, 1}, {70223, 1}, {70224, 1}, {70225, 2}, {140447, 2}, {140448, 2}, {140449, 3}, {210672, 3}} {
		for run := 1; run < 6; run++ {
			r := made(t, with(tight, func(c *api.HostConfig) { c.Life = x.life }), 800)
			r.connects(1)
			for range 2 { // a life is a session's own
				var list []api.Message
				for n := 0; n < 6; n += run {
					list = append(list, runs(run))
				}
				r.sends(0, append(append([]api.Message{opens(1, "a", idle())}, list...), look)...)
				want := "opened 0"
				for n := range x.frames {
					l := r.turns(1, nil, 0, n+1)
					if len(l) == 1 && l[0].Last != (n+1 == x.frames) {
						t.Errorf("H6: with a life of %d turn %d is %+v", x.life, n+1, l[0])
					}
					want += "; frame " + strconv.Itoa(n+1)
				}
				want += "; quota " + strconv.Itoa(x.frames)
				for n := range len(list) { // Runs that never came to be
					if n > (x.frames-1)/run {
						want += "; error 144"
					}
				}
				r.told(0, want+"; error 144")
				r.noTurn()
			}
			r.stands(0, 1, 0, 2*x.frames)
		}
	}
}

// TestH6Uneven: the clocks of a life are those that its frames have had.
func TestH6Uneven(t *testing.T) {
	for _, x := range []struct{ life, frames int }{{70228, 1}, {70229, 2}, {140448, 2}, {140449, 3}, {210680, 3}, {210681, 4}, {280900, 4}, {280901, 5}} {
		r := made(t, with(tight, func(c *api.HostConfig) { c.Life = x.life }), 800)
		r.connects(1)
		r.sends(0, opens(1, "a", uneven()), runs(600))
		if n := r.drain(1); n != x.frames {
			t.Errorf("H6: with a life of %d there were %d frames, want %d", x.life, n, x.frames)
		}
		r.stands(0, 1, 0, x.frames)
	}
	r := made(t, with(tight, func(c *api.HostConfig) { c.Life = api.MaxLife }), 800)
	r.connects(1)
	r.sends(0, opens(1, "a", idle()), runs(3))
	r.drain(1)
	r.stands(1, 1, 40960, 3)
}

// TestH6LastOfRun: the last frame of a Run that reaches the life, too.
func TestH6LastOfRun(t *testing.T) {
	r := made(t, with(tight, func(c *api.HostConfig) { c.Life = 140448 }), 800)
	r.connects(2)
	r.sends(0, opens(1, "a", idle()), runs(2), closes, opens(1, "a", idle()), runs(1), peek(0x100), runs(600), closes)
	r.sends(1, opens(1, "a", idle()), runs(1))
	r.turns(2, nil, 0, 1, 1, 1)
	if l := r.turns(2, nil, 0, 2); len(l) == 1 && !l[0].Last {
		t.Error("H6: a turn that reaches the life is not the last one")
	}
	r.told(0, "opened 0; frame 1; frame 2; quota 2; error 144; opened 0")
	r.stands(2, 2, 2*40960, 3)
	r.turns(2, nil, 0, 1)
	r.told(0, "frame 1; byte 24")
	if l := r.turns(2, nil, 0, 2); len(l) == 1 && !l[0].Last {
		t.Error("H6: a later session's life is not its own")
	}
	r.told(0, "frame 2; quota 2; error 144")
	r.noTurn()
	r.stands(1, 2, 40960, 5)
}

// TestH6Between: turns end one by one: what waits behind one of them is done ahead of the next one's end.
func TestH6Between(t *testing.T) {
	for first := range 2 {
		r := made(t, with(tight, func(c *api.HostConfig) { c.Bytes, c.Pool = 1<<20, pool(2, 8192, 9, 16384, 4) }), 800)
		r.connects(2)
		r.sends(0, opens(1, "a", idle()), runs(1), closes)
		r.sends(1, opens(1, "a", idle()), runs(1), closes, opens(1, "a", rom(t, 1, 1, 0)))
		r.turns(2, []int{first}, first, 1, 1-first, 1)
		r.told(0, "opened 0; frame 1; closed 1")
		if first == 0 {
			r.told(1, "opened 0; frame 1; closed 1; opened 0")
		} else {
			r.told(1, "opened 0; frame 1; closed 1; busy")
		}
	}
	for first := range 2 { // a save that one puts is what the other one finds, or not yet
		r := fresh(t, 2)
		r.sends(0, opens(1, "a", counts()), runs(1), save)
		r.sends(1, opens(1, "a", counts()), runs(1), closes, opens(1, "a", counts()))
		r.turns(2, []int{first}, first, 1, 1-first, 1)
		r.told(0, "opened 0; frame 1; saved 8192")
		if first == 0 {
			r.told(1, "opened 0; frame 1; closed 1; opened 8192")
		} else {
			r.told(1, "opened 0; frame 1; closed 1; opened 0")
		}
	}
}

// TestH6Lists: what is handed in is not kept; what comes out is new.
func TestH6Lists(t *testing.T) {
	r := fresh(t, 2)
	r.sends(0, opens(1, "a", idle()), runs(2), closes, opens(1, "a", idle()))
	r.sends(1, opens(1, "a", idle()), runs(9))
	for n := range 2 {
		picks := roomy([]int{4, -4, 9}, 7)
		l, e := r.Turn(2, nil, picks)
		if !spared(picks, []int{4, -4, 9}, 7) {
			t.Error("H6: Turn writes into its picks")
		}
		if e != api.OK || !slices.Equal(l, []api.Turn{{Conn: 0, Frame: n + 1, Clocks: 70224}, {Conn: 1, Frame: n + 1, Clocks: 70224}}) {
			t.Errorf("H6: Turn = %v, %d", l, e)
		}
		scratch(picks, 0)
		scratch(l, api.Turn{Conn: 99, Frame: 99, Clocks: 99})
	}
	r.turns(2, nil, 1, 3)
	r.told(0, "opened 0; frame 1; frame 2; closed 2; opened 0")
}
