package host_test

import (
	"bytes"
	"testing"

	"arcade/api"
)

// TestH7Stored: a picture is that of a console, four places a byte; its sum is that of what is stored.
func TestH7Stored(t *testing.T) {
	r := fresh(t, 1)
	game := rom(t, 3, 0, 2)
	c := consoleOf(t, game, nil)
	r.sends(0, opens(1, "a", game), look)
	l := r.told(0, "opened 0; picture 0")
	same(t, "H7: a picture ahead of the first frame", l[1].Data, make([]byte, 5760))
	shown := map[string]int{}
	for n := range 12 {
		r.sends(0, keys(n*21), runs(1), look, look)
		r.turns(1, nil, 0, n+1)
		l := r.gets(0)
		picture, sum := pictured(t, c, n*21)
		if len(l) != 3 || l[0].Kind != api.RepFrame || l[0].N != n+1 || l[0].M != sum || l[1].N != n+1 {
			t.Fatalf("H7: frame %d is answered by %s, sum %d, want %d", n+1, words(l), l[0].M, sum)
		}
		same(t, "H7: the picture", l[1].Data, picture)
		same(t, "H7: the picture, looked at twice", l[2].Data, picture)
		shown[string(picture)]++
	}
	if len(shown) < 6 {
		t.Errorf("H7: the game has shown %d pictures only", len(shown))
	}
}

// TestH7Places: the first place is in the two highest bits.
func TestH7Places(t *testing.T) {
	b := make([]byte, 32768)
	copy(b[0x100:], []byte{0xc3, 0x50, 0x01})
	// the first row of tile 0 has the places 3 2 1 0 0 1 2 3, all others have 0
	copy(b[0x150:], []byte{0x3e, 0xe4, 0xe0, 0x47, 0x3e, 0xa5, 0xea, 0x00, 0x80, 0x3e, 0xc3, 0xea, 0x01, 0x80, 0x18, 0xf4})
	r := fresh(t, 1)
	r.sends(0, opens(1, "a", sealed(b)), runs(2), look)
	r.drain(1)
	l := r.told(0, "opened 0; frame 1; frame 2; picture 2")
	var want []byte
	for row := range 144 {
		if row%8 == 0 {
			want = append(want, bytes.Repeat([]byte{0xe4, 0x1b}, 20)...)
		} else {
			want = append(want, make([]byte, 40)...)
		}
	}
	same(t, "H7: a picture of rows", l[3].Data, want)
}

// TestH7Own: each session has its own picture, and a new one has none, whatever was in its buffer.
func TestH7Own(t *testing.T) {
	r := made(t, with(tight, func(c *api.HostConfig) { c.Pool = pool(2, 8192, 4, 16384, 4) }), 800)
	r.connects(2)
	game := rom(t, 3, 0, 2)
	c, d := consoleOf(t, game, nil), consoleOf(t, game, nil)
	r.sends(0, opens(1, "a", game), keys(15), runs(2), look)
	r.sends(1, opens(2, "a", game), keys(240), runs(2), look)
	r.drain(2)
	pictured(t, c, 15)
	one, _ := pictured(t, c, 15)
	pictured(t, d, 240)
	two, _ := pictured(t, d, 240)
	if bytes.Equal(one, two) {
		t.Fatal("the game shows the same, whatever the buttons are")
	}
	same(t, "H7: the picture of the first", r.told(0, "opened 0; frame 1; frame 2; picture 2")[3].Data, one)
	same(t, "H7: the picture of the second", r.told(1, "opened 0; frame 1; frame 2; picture 2")[3].Data, two)
	for i := range 12 {
		r.brings(0, encoded(t, closes, opens(1, "a", game), look), i, 2*i, 3*i, i)
		l := r.gets(0)
		same(t, "H7: the picture of a new session", l[2].Data, make([]byte, 5760))
	}
	r.sends(1, look)
	same(t, "H7: the picture of the second", r.told(1, "picture 2")[0].Data, two)
}

// TestH8Over: by Close, by Hang, by a break and by its life: its buffers are free, and it is out of the round.
func TestH8Over(t *testing.T) {
	for which, end := range map[string]func(r *rig){
		"Close": func(r *rig) { r.sends(0, closes) },
		"Hang":  func(r *rig) { r.hang(0) },
		"break": func(r *rig) { r.brings(0, []byte{0, 0, 0, 0}) },
		"life":  func(r *rig) { r.sends(0, runs(2)) },
		"a Run that goes on, Hang": func(r *rig) {
			r.sends(0, runs(600))
			r.turns(1, nil, 0, 2)
			r.hang(0)
		},
		"a Run that goes on, life": func(r *rig) { r.sends(0, runs(600)) },
	} {
		r := made(t, with(tight, func(c *api.HostConfig) { c.Sessions, c.Pool, c.Life = 2, pool(2, 8192, 2, 16384, 2), 3*70224 }), 800)
		r.connects(3)
		for round := range 3 {
			r.sends(0, opens(1, "a", counts()), runs(1))
			r.turns(1, nil, 0, 1)
			r.sends(1, opens(1, "a", counts()))
			r.told(1, "busy")
			end(r)
			r.drain(1)
			if r.Status().Used != 0 || r.Status().Sessions != 0 {
				t.Errorf("H8: over by %s, round %d: %+v", which, round, r.Status())
			}
			r.noTurn()
			r.sends(1, opens(1, "a", counts()), runs(1))
			r.turns(1, nil, 1, 1)
			r.sends(1, closes)
			r.told(1, "opened 0; frame 1; closed 1")
			if which == "break" {
				r.hang(0)
			}
			if r.Status().Conns == 2 {
				r.connect(0)
			}
		}
	}
}

// TestH9Replies: what went out is told once, and is new memory.
func TestH9Replies(t *testing.T) {
	r := fresh(t, 2)
	r.told(0, "")
	r.sends(0, opens(1, "a", idle()), runs(2), look)
	b, e := r.Replies(0)
	if e != api.OK || !bytes.Equal(b, []byte{0, 0, 0, 5, 1, 0, 0, 0, 0}) {
		t.Errorf("H9: Replies = %v, %d", b, e)
	}
	scratch(b, 0xff)
	_ = append(b, 1, 2, 3, 4, 5)
	r.told(0, "")
	r.turns(1, nil, 0, 1)
	b, _ = r.Replies(0)
	was := bytes.Clone(b)
	r.turns(1, nil, 0, 2)
	same(t, "H9: what was told", b, was)
	scratch(b, 0xee)
	r.told(0, "frame 2; picture 2")
	r.told(0, "")
	r.told(1, "")
	r.sends(1, look)
	r.told(0, "")
	r.told(1, "error 144")
}

// TestH9Bytes: replies byte by byte.
func TestH9Bytes(t *testing.T) {
	r := fresh(t, 1)
	r.sends(0, save, opens(1, "a", counts()), save, peek(0x101), runs(1), closes)
	r.turns(1, nil, 0, 1)
	c := consoleOf(t, counts(), nil)
	_, sum := pictured(t, c, 0)
	want := []byte{0, 0, 0, 3, 3, 0, 144, 0, 0, 0, 5, 1, 0, 0, 0, 0, 0, 0, 0, 5, 6, 0, 0, 32, 0, 0, 0, 0, 2, 7, 0x50, 0, 0, 0, 9, 4, 0, 0, 0, 1, byte(sum >> 24), byte(sum >> 16), byte(sum >> 8), byte(sum), 0, 0, 0, 5, 8, 0, 0, 0, 1}
	if b, e := r.Replies(0); e != api.OK || !bytes.Equal(b, want) {
		t.Errorf("H9: Replies = %v, %d, want %v", b, e, want)
	}
}

// TestH9Status: sessions, connections, bytes by their classes, frames of all sessions that there ever were.
func TestH9Status(t *testing.T) {
	r := made(t, with(plenty, func(c *api.HostConfig) { c.Pool = pool(9, 6000, 9, 9000, 40, 20000, 99) }), 800)
	r.stands(0, 0, 0, 0)
	r.connects(3)
	r.stands(0, 3, 0, 0)
	r.sends(0, opens(1, "a", idle()), runs(2))
	r.stands(1, 3, 46000, 0)
	r.sends(1, opens(1, "a", rom(t, 3, 1, 3)), runs(5))
	r.stands(2, 3, 46000+6000+4*9000+4*20000, 0)
	r.turns(2, nil, 0, 1, 1, 1)
	r.stands(2, 3, 168000, 2)
	r.hang(1)
	r.stands(1, 2, 46000, 2)
	r.turns(2, nil, 0, 2)
	r.sends(0, closes)
	r.stands(0, 2, 0, 3)
	r.sends(2, opens(1, "a", rom(t, 6, 0, 0)), runs(1))
	r.turns(2, nil, 2, 1)
	r.brings(2, []byte{0, 0, 0, 0})
	r.stands(0, 2, 0, 4)
	r.hang(0)
	r.hang(2)
	r.stands(0, 0, 0, 4)
	r.connect(0)
	r.told(0, "")
}

// TestH9Crash: what is left of the store is what the store says, with the same picks.
func TestH9Crash(t *testing.T) {
	for limit := range 60 {
		r := made(t, tight, 800)
		r.connects(1)
		r.sends(0, opens(1, "a", counts()), save, runs(1), save)
		r.store.Limit(limit)
		r.turns(1, nil, 0, 1)
		picks := roomy([]int{512, 100, 0, 600, -3, 1 << 40, 513, 1025, 7}, 11)
		want := r.store.Crash(picks)
		left, e := r.Crash(picks)
		if e != api.OK || !bytes.Equal(left, want) {
			t.Errorf("H9: Crash with a limit of %d = %d bytes, %d", limit, len(left), e)
		}
		if !spared(picks, []int{512, 100, 0, 600, -3, 1 << 40, 513, 1025, 7}, 11) {
			t.Error("H9: Crash writes into its picks")
		}
		scratch(left, 0)
		same(t, "H9: what the store says behind a crash", r.store.Crash(picks), want)
	}
}
