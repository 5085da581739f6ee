package host_test

import (
	"bytes"
	"strings"
	"testing"

	"arcade/api"
)

// script is messages of each kind, with sessions and without.
func script(t *testing.T) []byte {
	t.Helper()
	return encoded(t, look, opens(3, "s", rom(t, 3, 0, 2)), keys(17), runs(2), look, peek(0xc000), save, peek(0x4000), runs(1),
		opens(3, "s", idle()), closes, closes, opens(3, "s", rom(t, 3, 0, 2)), runs(1), peek(0xa000), save, closes, runs(1))
}

// TestH3Cut: the bytes of a connection, cut anywhere.
func TestH3Cut(t *testing.T) {
	all := script(t)
	whole := fresh(t, 1)
	whole.brings(0, all)
	whole.drain(1)
	want, e := whole.Replies(0)
	if l := decoded(t, want); e != api.OK || len(l) != 18 || !strings.HasPrefix(words(l), "error 144; opened 0; frame 1; frame 2; picture 2; byte 238; saved 8192; ") || !strings.HasSuffix(words(l), "; saved 8192; closed 1; error 144") {
		t.Fatalf("H3: the script is answered by %s", words(l))
	}
	// all places near a frame's ends, and some in the midst of ROMs
	var places []int
	for i := range all {
		if i < 20 || i > 32790 && i < 32850 || i > len(all)-40 || i%4099 == 0 {
			places = append(places, i)
		}
	}
	for _, at := range places {
		r := fresh(t, 1)
		r.brings(0, all[:at])
		if at%2 == 0 {
			r.drain(1)
		}
		r.brings(0, all[at:])
		r.drain(1)
		if got, _ := r.Replies(0); !bytes.Equal(got, want) {
			t.Errorf("H3: cut at %d: %s", at, words(decoded(t, got)))
		}
	}
	r := fresh(t, 1)
	for i := range all {
		r.brings(0, all[i:i+1])
		r.brings(0, nil)
	}
	r.drain(1)
	if got, _ := r.Replies(0); !bytes.Equal(got, want) {
		t.Errorf("H3: byte by byte: %s", words(decoded(t, got)))
	}
}

// wrongs are bytes that the decoder refuses, each with its error.
var wrongs = []struct {
	data []byte
	why  string
}{
	{[]byte{0, 0, 0, 0}, "error 121"},
	{[]byte{0, 4, 1, 1}, "error 121"},
	{[]byte{0, 0, 0, 1, 2}, "error 121"},
	{[]byte{0, 0, 0, 1, 9}, "error 122"},
	{[]byte{0, 0, 0, 1, 0}, "error 122"},
	{[]byte{0, 0, 0, 3, 3, 0, 0}, "error 123"},
	{[]byte{0, 0, 0, 3, 3, 2, 89}, "error 123"},
}

// TestH3Break: a break behind whole messages, in the same piece or in another one; what comes later is passed over.
func TestH3Break(t *testing.T) {
	for _, x := range wrongs {
		good := encoded(t, opens(1, "a", idle()), peek(0), look)
		r := fresh(t, 1)
		r.brings(0, append(append(good, x.data...), good...))
		r.told(0, "opened 0; byte 0; picture 0; "+x.why)
		r.stands(0, 1, 0, 0)
		for range 3 {
			r.brings(0, good)
			r.brings(0, x.data)
		}
		r.told(0, "")
		r.stands(0, 1, 0, 0)

		r = fresh(t, 1)
		for i := range x.data {
			r.told(0, "")
			r.brings(0, x.data[i:i+1])
		}
		r.told(0, x.why)
		r.sends(0, look)
		r.told(0, "")
	}
}

// TestH3BreakInRun: in the midst of a run a break waits, behind all that waits.
func TestH3BreakInRun(t *testing.T) {
	for _, x := range wrongs {
		r := fresh(t, 2)
		r.sends(0, opens(1, "a", idle()), runs(2), peek(0), runs(1))
		r.sends(1, opens(1, "a", idle()))
		r.brings(0, append(encoded(t, look), x.data...))
		r.told(0, "opened 0")
		r.brings(0, append(encoded(t, look), x.data...))
		r.turns(1, nil, 0, 1)
		r.brings(0, x.data)
		r.told(0, "frame 1")
		r.turns(1, nil, 0, 2)
		r.told(0, "frame 2; byte 0")
		r.stands(2, 2, 2*38528, 2)
		r.turns(1, nil, 0, 3)
		r.told(0, "frame 3; picture 3; "+x.why)
		r.stands(1, 2, 38528, 3)
		r.sends(0, opens(1, "a", idle()))
		r.told(0, "")
		r.noTurn()
		r.told(1, "opened 0")
	}
}

// TestH3Many: thousands of messages that wait, in the order in which they came.
func TestH3Many(t *testing.T) {
	r := fresh(t, 1)
	r.sends(0, opens(1, "a", rom(t, 0, 0, 0)), runs(2))
	c := consoleOf(t, rom(t, 0, 0, 0), nil)
	pictured(t, c, 0)
	pictured(t, c, 0)
	var list []api.Message
	var want []byte
	for i := range 20000 {
		addr := i * 31 % 32768
		list = append(list, peek(addr))
		v, _ := c.Peek(addr)
		want = append(want, byte(v))
	}
	r.sends(0, list[:15000]...)
	r.turns(1, nil, 0, 1)
	r.sends(0, list[15000:]...)
	r.told(0, "opened 0; frame 1")
	r.turns(1, nil, 0, 2)
	var got []byte
	for _, x := range r.gets(0) {
		if x.Kind == api.RepByte {
			got = append(got, byte(x.N))
		}
	}
	same(t, "H3: what is peeked behind a run", got, want)
}

// TestH3Lists: what is handed in is not changed, and not kept.
func TestH3Lists(t *testing.T) {
	all := encoded(t, opens(1, "a", idle()), runs(1), peek(0x100), peek(0x101))
	for _, at := range []int{3, 1000, len(all)} {
		r := fresh(t, 1)
		for _, b := range [][]byte{all[:at], all[at:]} {
			data, picks := roomy(b, 0xa5), roomy([]int{3, -1, 7}, 5)
			r.brings(0, data, picks...)
			if !spared(data, b, 0xa5) || !spared(picks, []int{3, -1, 7}, 5) {
				t.Error("H3: Feed writes into a list")
			}
			scratch(data, 0xff)
			scratch(picks, -9)
		}
		r.turns(1, nil, 0, 1)
		r.told(0, "opened 0; frame 1; byte 24; byte 254")
	}
}
