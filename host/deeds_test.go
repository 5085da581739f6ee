package host_test

import (
	"strconv"
	"testing"

	"arcade/api"
	"arcade/saves"
)

// TestH4Example: the document's.
func TestH4Example(t *testing.T) {
	r := fresh(t, 1)
	r.sends(0, opens(1, "a", idle()), keys(128), runs(2), peek(49152), closes)
	r.told(0, "opened 0")
	r.turns(1, nil, 0, 1)
	r.told(0, "frame 1")
	r.turns(1, nil, 0, 2)
	r.told(0, "frame 2; byte 0; closed 2")
	r.noTurn()
	r.told(0, "")
}

// TestH4Kind: each message without a session, and an Open with one.
func TestH4Kind(t *testing.T) {
	for _, m := range []api.Message{keys(0), keys(255), runs(1), runs(600), look, save, peek(0), peek(65535), closes} {
		r := fresh(t, 1)
		r.sends(0, m)
		r.told(0, "error 144")
		r.stands(0, 1, 0, 0)
		r.noTurn()
		r.sends(0, opens(1, "a", idle()), closes, m, m)
		r.told(0, "opened 0; closed 0; error 144; error 144")
	}
	r := fresh(t, 1)
	r.sends(0, opens(1, "a", counts()), opens(1, "a", counts()), opens(8, "b", broken()), opens(1, "a", nil), runs(1), opens(1, "a", idle()))
	r.turns(1, nil, 0, 1)
	r.told(0, "opened 0; error 144; error 144; error 144; frame 1; error 144")
	r.stands(1, 1, 46720, 1)
}

// TestH4Keys: buttons are down from now on, in each frame; a session begins with none.
func TestH4Keys(t *testing.T) {
	r := fresh(t, 1)
	game := rom(t, 0, 0, 0)
	c := consoleOf(t, game, nil)
	r.sends(0, opens(1, "a", game))
	r.told(0, "opened 0")
	frames := 0
	for _, n := range []int{-1, 1, 255, 0, 128, 16, 5} {
		if n >= 0 {
			r.sends(0, keys(n^0xff), keys(n))
			r.told(0, "")
		}
		r.sends(0, runs(2), keys(77), keys(max(n, 0)), peek(0xc000), peek(0xc001))
		pictured(t, c, max(n, 0))
		_, sum := pictured(t, c, max(n, 0))
		one, _ := c.Peek(0xc000)
		two, _ := c.Peek(0xc001)
		r.turns(1, nil, 0, frames+1)
		r.turns(1, nil, 0, frames+2)
		frames += 2
		l := r.gets(0)
		if len(l) != 4 || l[1].M != sum || l[2].N != one || l[3].N != two {
			t.Errorf("H4: with the buttons %d: %s, want the bytes %d, %d", n, words(l), one, two)
		}
	}
	r.sends(0, keys(255), closes, opens(1, "a", game), runs(1), peek(0xc000), peek(0xc001))
	r.turns(1, nil, 0, 1)
	c = consoleOf(t, game, nil)
	pictured(t, c, 0)
	one, _ := c.Peek(0xc000)
	two, _ := c.Peek(0xc001)
	if l := r.gets(0); len(l) != 5 || l[3].N != one || l[4].N != two {
		t.Errorf("H4: a later session on a connection begins with buttons: %s, want %d, %d", words(l), one, two)
	}
}

// TestH4Run: while a Run goes on nothing is done, another Run neither.
func TestH4Run(t *testing.T) {
	r := fresh(t, 1)
	r.sends(0, opens(1, "a", idle()), runs(3), runs(2), peek(0x100))
	r.sends(0, runs(1), look)
	for i := range 3 {
		r.turns(8, nil, 0, i+1)
	}
	r.sends(0, closes, look)
	r.told(0, "opened 0; frame 1; frame 2; frame 3")
	r.turns(1, nil, 0, 4)
	r.turns(1, nil, 0, 5)
	r.told(0, "frame 4; frame 5; byte 24")
	r.turns(1, nil, 0, 6)
	r.told(0, "frame 6; picture 6; closed 6; error 144")
	r.noTurn()
}

// TestH4LongRun: as many frames as a Run may have.
func TestH4LongRun(t *testing.T) {
	r := fresh(t, 1)
	r.sends(0, opens(1, "a", idle()), runs(600), closes)
	if n := r.drain(2); n != 600 {
		t.Errorf("H4: a Run of 600 has %d frames", n)
	}
	l := r.gets(0)
	if len(l) != 602 || l[601].Kind != api.RepClosed || l[601].N != 600 {
		t.Errorf("H4: a Run of 600 is answered by %d replies", len(l))
	}
	for i := 1; i < len(l)-1; i++ {
		if l[i].Kind != api.RepFrame || l[i].N != i {
			t.Errorf("H4: reply %d is %+v", i, l[i])
		}
	}
}

// TestH4Peek: at all addresses what a console of its own tells.
func TestH4Peek(t *testing.T) {
	for _, kind := range []byte{0, 3, 0x1b} {
		game := rom(t, kind, 0, kind&2)
		r := fresh(t, 1)
		c := consoleOf(t, game, nil)
		var list []api.Message
		for addr := range 65536 {
			list = append(list, peek(addr))
		}
		r.sends(0, opens(1, "a", game))
		r.told(0, "opened 0")
		for i := range 2 {
			r.sends(0, list...)
			for addr, x := range r.gets(0) {
				if v, _ := c.Peek(addr); x.Kind != api.RepByte || x.N != v {
					t.Fatalf("H4: behind %d frames Peek(%d) is %+v, want %d", i, addr, x, v)
				}
			}
			r.sends(0, runs(1))
			r.turns(1, nil, 0, i+1)
			r.gets(0)
			pictured(t, c, 0)
		}
	}
}

// TestH4Save: of a cartridge with a battery what its RAM has, of each kind; of others there is none.
func TestH4Save(t *testing.T) {
	for _, x := range []struct {
		kind, ramCode byte
		want          string
	}{
		{0x00, 0, "error 111"}, {0x08, 2, "error 111"}, {0x01, 0, "error 111"}, {0x02, 3, "error 111"}, {0x05, 0, "error 111"}, {0x12, 2, "error 111"}, {0x1a, 5, "error 111"},
		{0x09, 2, "saved 8192"}, {0x03, 2, "saved 8192"}, {0x03, 3, "saved 32768"}, {0x06, 0, "saved 512"}, {0x13, 3, "saved 32768"}, {0x1b, 4, "saved 131072"}, {0x1b, 5, "saved 65536"},
	} {
		r := fresh(t, 1)
		game := rom(t, x.kind, 0, x.ramCode)
		c := consoleOf(t, game, nil)
		r.sends(0, opens(5, "kept", game), runs(1), save, closes)
		r.turns(1, nil, 0, 1)
		r.told(0, "opened 0; frame 1; "+x.want+"; closed 1")
		pictured(t, c, 0)
		s, e := saves.Open(r.store)
		if e != api.OK {
			t.Fatalf("saves.Open = %d", e)
		}
		b, e := s.Get(5, "kept")
		if (e == api.OK) != (len(c.Save()) > 0) {
			t.Errorf("H4: behind a Save of kind %d Get = %d", x.kind, e)
		}
		same(t, "H4: what is saved", b, c.Save())
		if n, _ := s.List(5); len(n) > 1 {
			t.Errorf("H4: saved were %v", n)
		}
	}
}

// TestH4SaveRefused: the errors of Put are replied, and the session goes on.
func TestH4SaveRefused(t *testing.T) {
	r := made(t, plenty, 200) // an area has 4 heads and 21 data sectors: 8192 bytes have 17
	r.connects(2)
	r.sends(0, opens(1, "a", counts()), save, save, runs(1), save, peek(0x100))
	r.turns(1, nil, 0, 1)
	r.told(0, "opened 0; saved 8192; error 112; frame 1; error 112; byte 195")
	r.sends(1, opens(2, "a", counts()), save, closes)
	r.told(1, "opened 0; saved 8192; closed 0")

	r = made(t, plenty, 800)
	r.connects(2)
	r.sends(0, opens(1, "a", counts()), save)
	r.sends(1, opens(2, "a", counts()), runs(1))
	r.store.Limit(3)
	r.sends(0, save, save, look, closes)
	r.told(0, "opened 0; saved 8192; error 114; error 114; picture 0; closed 0")
	r.store.Limit(1000)
	r.turns(1, nil, 1, 1)
	r.sends(1, save, peek(0x100))
	r.told(1, "opened 0; frame 1; error 114; byte 195") // dead for all
	r.sends(0, opens(1, "a", counts()), opens(1, "a", idle()), save, closes)
	r.told(0, "error 114; opened 0; error 111; closed 0")
}

// TestH4SaveFound: what was saved last is what a later session of the same tenant and name begins with, whoever opens it.
func TestH4SaveFound(t *testing.T) {
	r := fresh(t, 3)
	game := rom(t, 3, 0, 2)
	c := consoleOf(t, game, nil)
	r.sends(0, opens(1, "a", game), runs(1), save, runs(1), save, runs(1))
	r.drain(1)
	r.told(0, "opened 0; frame 1; saved 8192; frame 2; saved 8192; frame 3")
	pictured(t, c, 0)
	pictured(t, c, 0)
	d := consoleOf(t, game, c.Save())
	pictured(t, d, 0)
	want, _ := d.Peek(0xa000)
	r.sends(1, opens(1, "a", game), runs(1), peek(0xa000), closes, opens(2, "a", game), closes, opens(1, "b", game), closes)
	r.drain(1)
	r.told(1, "opened 8192; frame 1; byte "+strconv.Itoa(want)+"; closed 1; opened 0; closed 0; opened 0; closed 0")
	r.sends(0, save, closes)
	r.sends(2, opens(1, "a", game), closes)
	r.told(0, "saved 8192; closed 3")
	r.told(2, "opened 8192; closed 0")
}

// TestH4Close: a session is over; the next one on the same connection is another one.
func TestH4Close(t *testing.T) {
	r := fresh(t, 1)
	for range 3 {
		r.sends(0, opens(1, "a", rom(t, 0, 0, 0)), keys(3), runs(2), closes, peek(0), opens(1, "a", idle()), look, closes)
		r.stands(1, 1, 38528, r.Status().Frames)
		r.turns(1, nil, 0, 1)
		r.turns(1, nil, 0, 2)
		r.told(0, "opened 0; frame 1; frame 2; closed 2; error 144; opened 0; picture 0; closed 0")
		r.stands(0, 1, 0, r.Status().Frames)
	}
	r.stands(0, 1, 0, 6)
}
