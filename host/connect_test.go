package host_test

import (
	"testing"

	"arcade/api"
)

// TestH2Least: the least number that is not open, up to 128 of them.
func TestH2Least(t *testing.T) {
	r := made(t, plenty, 8)
	r.connects(128)
	for range 2 {
		if n, e := r.Connect(); n != 0 || e != api.ErrHostFull {
			t.Errorf("H2: Connect of one too many = %d, %d", n, e)
		}
	}
	r.stands(0, 128, 0, 0)
	for _, n := range []int{127, 0, 64, 63} {
		r.hang(n)
	}
	r.stands(0, 124, 0, 0)
	for _, n := range []int{0, 63, 64, 127} {
		r.connect(n)
	}
	if n, e := r.Connect(); n != 0 || e != api.ErrHostFull {
		t.Errorf("H2: Connect of one too many = %d, %d", n, e)
	}
	r.hang(5)
	r.hang(3)
	r.connect(3)
	r.hang(2)
	r.connect(2)
	r.connect(5)
}

// TestH2None: connections that are not open, or not any more.
func TestH2None(t *testing.T) {
	r := made(t, plenty, 8)
	r.connects(3)
	r.hang(1)
	for _, n := range append(far, 1, 3, 127) {
		if e := r.Hang(n); e != api.ErrHostConn {
			t.Errorf("H2: Hang(%d) = %d", n, e)
		}
		if e := r.Feed(n, encoded(t, look), nil); e != api.ErrHostConn {
			t.Errorf("H3: Feed(%d) = %d", n, e)
		}
		if l, e := r.Replies(n); len(l) != 0 || e != api.ErrHostConn {
			t.Errorf("H9: Replies(%d) = %v, %d", n, l, e)
		}
	}
	r.stands(0, 2, 0, 0)
	r.told(0, "")
	r.told(2, "")
}

// TestH2Hang: with a connection go its session, what waits, what has come by half, and what has gone out.
func TestH2Hang(t *testing.T) {
	r := fresh(t, 3)
	r.sends(0, opens(1, "a", idle()), runs(3))
	r.sends(1, opens(1, "a", idle()), runs(3), look, closes, opens(1, "b", idle()))
	r.sends(2, opens(1, "a", idle()), runs(3))
	r.brings(1, encoded(t, look)[:3])
	r.turns(2, nil, 0, 1, 1, 1)
	r.stands(3, 3, 3*38528, 2)
	r.hang(1)
	r.stands(2, 2, 2*38528, 2)
	r.turns(8, nil, 2, 1, 0, 2)

	r.connect(1)
	r.told(1, "")
	r.stands(2, 3, 2*38528, 4)
	r.sends(1, look, opens(1, "a", idle()), runs(1))
	r.turns(8, nil, 2, 2, 0, 3, 1, 1)
	r.told(1, "error 144; opened 0; frame 1")
}

// TestH2Broken: a connection that is broken is a new one when it is opened again.
func TestH2Broken(t *testing.T) {
	r := fresh(t, 1)
	for range 3 {
		r.brings(0, []byte{0, 0, 0, 0})
		r.sends(0, opens(1, "a", idle()))
		r.told(0, "error 121")
		r.hang(0)
		r.connect(0)
		r.told(0, "")
		r.sends(0, opens(1, "a", idle()), runs(2))
		r.brings(0, []byte{0, 0, 0, 1, 99})
		r.turns(1, nil, 0, 1)
		r.told(0, "opened 0; frame 1")
		r.hang(0) // with the break still waiting
		r.connect(0)
		r.noTurn()
		r.told(0, "")
	}
}
