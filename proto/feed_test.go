package proto_test

import (
	"slices"
	"testing"

	"arcade/api"
	"arcade/proto"
)

func TestD1New(t *testing.T) {
	d := proto.NewDecoder()
	if d == nil || d.Poisoned() || d.Waiting() != 0 {
		t.Fatalf("D1: NewDecoder: %v", d)
	}
	for _, b := range [][]byte{nil, {}, nil} {
		fed(t, d, b, 0)
	}
	fed(t, d, frame(5), 0, api.Message{Kind: api.MsgSave})
}

func TestD1Examples(t *testing.T) {
	d := proto.NewDecoder()
	fed(t, d, []byte{0, 0, 0, 1}, 4)
	fed(t, d, []byte{4, 0, 0}, 2, api.Message{Kind: api.MsgLook})
	poisons(t, proto.NewDecoder(), []byte{0, 0, 0, 0}, api.ErrProtoLength)
	poisons(t, proto.NewDecoder(), []byte{0, 0, 0, 1, 9}, api.ErrProtoKind)
	poisons(t, proto.NewDecoder(), []byte{0, 0, 0, 1, 2}, api.ErrProtoLength)
	poisons(t, proto.NewDecoder(), []byte{0, 0, 0, 3, 3, 0, 0}, api.ErrProtoField)
	poisons(t, proto.NewDecoder(), []byte{0, 0, 0, 2, 4, 4}, api.ErrProtoLength)
	fed(t, proto.NewDecoder(), []byte{0, 0, 0, 3, 3, 0, 5}, 0, api.Message{Kind: api.MsgRun, N: 5})
}

// Each right message, in one piece, and in two that are cut at any place.
func TestD1Messages(t *testing.T) {
	for _, c := range messages() {
		fed(t, proto.NewDecoder(), c.bytes, 0, c.is)
		for at := range c.bytes {
			d := proto.NewDecoder()
			fed(t, d, c.bytes[:at], at)
			fed(t, d, nil, at)
			fed(t, d, c.bytes[at:], 0, c.is)
		}
	}
}

// All of them one behind the other, in one piece.
func TestD1Several(t *testing.T) {
	list := messages()
	d := proto.NewDecoder()
	fed(t, d, joined(list), 0, told(list)...)
	half := opening(2, "half", text(9, 1))
	fed(t, d, append(joined(list), half[:20]...), 20, told(list)...)
	fed(t, d, append(half[20:], joined(list)...), 0, append([]api.Message{open(2, "half", text(9, 1))}, told(list)...)...)
}

// A length is not known ahead of its fourth byte, nor a frame whole ahead of its last.
func TestD1Waiting(t *testing.T) {
	d := proto.NewDecoder()
	b := opening(5, "name", text(600, 1))
	for i := range b {
		fed(t, d, nil, i)
		if i < len(b)-1 {
			fed(t, d, b[i:i+1], i+1)
		}
	}
	fed(t, d, append(b[len(b)-1:], 0, 4, 0), 3, open(5, "name", text(600, 1)))
	fed(t, d, []byte{64}, 4) // 262208 are to come
	fed(t, d, make([]byte, 262207), 262211)
	poisons(t, d, []byte{1}, api.ErrProtoKind)
}

// The greatest message, whole, cut in two, and byte by byte.
func TestD1Greatest(t *testing.T) {
	c := greatest()
	fed(t, proto.NewDecoder(), c.bytes, 0, c.is)
	for _, at := range []int{1, 3, 4, 5, 6, 23, 26, 27, 28, 100000, len(c.bytes) - 1} {
		d := proto.NewDecoder()
		fed(t, d, c.bytes[:at], at)
		fed(t, d, c.bytes[at:], 0, c.is)
	}
	d := proto.NewDecoder()
	last := len(c.bytes) - 1
	for i := range last {
		if list, e := d.Feed(c.bytes[i : i+1]); len(list) != 0 || e != api.OK || d.Waiting() != i+1 {
			t.Fatalf("D1: Feed of byte %d = %s, %d, Waiting %d", i, short(list), e, d.Waiting())
		}
	}
	fed(t, d, c.bytes[last:], 0, c.is)
}

// Lengths of frames at their bounds: what is wrong with them is told with the fourth byte; with others, when they are whole.
func TestD1Lengths(t *testing.T) {
	for _, w := range wrongLengths() {
		for at := range 4 {
			d := proto.NewDecoder()
			fed(t, d, w.bytes[:at], at)
			poisons(t, d, w.bytes[at:], w.why)
			d = proto.NewDecoder()
			fed(t, d, w.bytes[:at], at)
			poisons(t, d, append(w.bytes[at:], frame(4)...), w.why)
		}
	}
	for _, n := range []int{1, 2, 255, 256, 65535, 65536, 262144, 262399, 262400} {
		d := proto.NewDecoder()
		fed(t, d, long(n), 4)
		fed(t, d, make([]byte, n-1), 3+n)
		poisons(t, d, make([]byte, 1), api.ErrProtoKind)
	}
}

// What is wrong is told with the last byte, not ahead of it, wherever the bytes are cut; ahead of it stand the messages that are right, and what stands behind it is passed over.
func TestD1Wrong(t *testing.T) {
	run, look := api.Message{Kind: api.MsgRun, N: 600}, api.Message{Kind: api.MsgLook}
	ahead := append(frame(3, word(600)), frame(4)...)
	for _, w := range wrongMessages() {
		poisons(t, proto.NewDecoder(), w.bytes, w.why)
		poisons(t, proto.NewDecoder(), slices.Concat(ahead, w.bytes, frame(4), long(0)), w.why, run, look)
		for at := range w.bytes {
			d := proto.NewDecoder()
			fed(t, d, slices.Concat(ahead, w.bytes[:at]), at, run, look)
			poisons(t, d, w.bytes[at:], w.why)
		}
	}
}

func TestD1WrongGreat(t *testing.T) {
	for _, w := range wrongGreat() {
		d := proto.NewDecoder()
		last := len(w.bytes) - 1
		fed(t, d, w.bytes[:last], last)
		poisons(t, d, w.bytes[last:], w.why)
		poisons(t, proto.NewDecoder(), append(frame(7), w.bytes...), w.why, api.Message{Kind: api.MsgClose})
	}
}

// Each byte as the kind of a frame without a body, and with one.
func TestD1Kinds(t *testing.T) {
	for kind := range 256 {
		for _, body := range [][]byte{nil, {1}, {1, 2}, {1, 1, 'a', 0, 0, 0, 0}} {
			want, why := modelMessage(append([]byte{byte(kind)}, body...))
			b := frame(byte(kind), body)
			if kind == 0 || kind > 7 {
				why = api.ErrProtoKind
			}
			if why == api.OK {
				fed(t, proto.NewDecoder(), b, 0, want)
			} else {
				poisons(t, proto.NewDecoder(), b, why)
			}
		}
	}
}

// Each byte as a name, and within one.
func TestD1Names(t *testing.T) {
	right := map[byte]int{}
	for i := range len(letters) {
		right[letters[i]]++
	}
	for x := range 256 {
		for _, name := range []string{string([]byte{byte(x)}), string([]byte{'a', byte(x)}), string([]byte{byte(x), 'a'}), letters[:15] + string([]byte{byte(x)})} {
			if right[byte(x)] == 1 {
				fed(t, proto.NewDecoder(), opening(1, name, nil), 0, open(1, name, nil))
			} else {
				poisons(t, proto.NewDecoder(), opening(1, name, nil), api.ErrProtoField)
			}
		}
	}
	for n := range 256 {
		name := string(slices.Repeat([]byte{'q'}, n))
		if n >= 1 && n <= 16 {
			fed(t, proto.NewDecoder(), opening(1, name, nil), 0, open(1, name, nil))
		} else {
			poisons(t, proto.NewDecoder(), opening(1, name, nil), api.ErrProtoField)
		}
	}
}

// Each number that a byte or a word may be.
func TestD1Numbers(t *testing.T) {
	for n := range 256 {
		fed(t, proto.NewDecoder(), frame(2, []byte{byte(n)}), 0, api.Message{Kind: api.MsgKeys, N: n})
		if n >= 1 && n <= 8 {
			fed(t, proto.NewDecoder(), opening(n, "a", nil), 0, open(n, "a", nil))
		} else {
			poisons(t, proto.NewDecoder(), opening(n, "a", nil), api.ErrProtoField)
		}
	}
	d := proto.NewDecoder()
	for n := range 65536 {
		fed(t, d, frame(6, word(n)), 0, api.Message{Kind: api.MsgPeek, N: n})
	}
	for n := 1; n <= 600; n++ {
		fed(t, d, frame(3, word(n)), 0, api.Message{Kind: api.MsgRun, N: n})
	}
	for n := 601; n < 65536; n += 13 {
		poisons(t, proto.NewDecoder(), frame(3, word(n)), api.ErrProtoField)
	}
}

// What was handed in is whoever's it was: what waits does not hang on what they do with it then.
func TestD1NotKept(t *testing.T) {
	c := coded[api.Message]{open(4, "kept", text(900, 1)), opening(4, "kept", text(900, 1))}
	d := proto.NewDecoder()
	for i := 0; i < len(c.bytes); i += 100 {
		given := roomy(c.bytes[i:min(i+100, len(c.bytes))])
		list, e := d.Feed(given)
		scratch(given)
		_ = append(given, 1, 2, 3)
		if i+100 >= len(c.bytes) && (e != api.OK || len(list) != 1 || !sameMessage(list[0], c.is)) {
			t.Errorf("D1: the bytes that waited have changed: %s, %d", short(list), e)
		}
	}
}

// What is told is new memory: whoever writes into it, or makes it longer, changes nothing else.
func TestD1NewMemory(t *testing.T) {
	a, b := open(1, "a", text(64, 1)), open(2, "b", text(64, 2))
	both := append(opening(1, "a", a.Data), opening(2, "b", b.Data)...)
	given := append(slices.Clone(both), both[:50]...)
	d := proto.NewDecoder()
	list, _ := d.Feed(given)
	if len(list) != 2 {
		t.Fatalf("D1: Feed of two = %s", short(list))
	}
	scratch(list[0].Data)
	_ = append(list[0].Data, text(100, 5)...)
	if !sameMessage(list[1], b) {
		t.Errorf("R3: one message's data are another one's")
	}
	scratch(list[1].Data)
	_ = append(list[1].Data, text(100, 5)...)
	_ = append(list[:0], api.Message{}, api.Message{})
	if !slices.Equal(given, append(slices.Clone(both), both[:50]...)) {
		t.Errorf("R3: what is told is what was handed in")
	}
	fed(t, d, both[50:], 0, a, b)
	list, _ = d.Feed(both)
	again, _ := d.Feed(both)
	_ = append(list[:0], api.Message{}, api.Message{})
	scratch(list[0].Data)
	if !slices.EqualFunc(again, []api.Message{a, b}, sameMessage) {
		t.Errorf("R3: what two calls tell shares memory")
	}
}

// Messages with an error, and the error alone, are no longer the decoder's either.
func TestD1PoisonedMemory(t *testing.T) {
	a := open(1, "a", text(64, 1))
	d := proto.NewDecoder()
	list, e := d.Feed(append(opening(1, "a", a.Data), 0, 0, 0, 0))
	if e != api.ErrProtoLength || len(list) != 1 || !sameMessage(list[0], a) {
		t.Fatalf("D1: a message and an error = %s, %d", short(list), e)
	}
	scratch(list[0].Data)
	dead(t, d)
}

// To ask changes nothing.
func TestD1Asked(t *testing.T) {
	c := messages()[0]
	asked, not := proto.NewDecoder(), proto.NewDecoder()
	for i, x := range append(slices.Clone(c.bytes), 0, 0, 0, 1, 8) {
		for range i {
			asked.Poisoned()
			asked.Waiting()
		}
		a, e := asked.Feed([]byte{x})
		b, f := not.Feed([]byte{x})
		if !slices.EqualFunc(a, b, sameMessage) || e != f || asked.Waiting() != not.Waiting() || asked.Poisoned() != not.Poisoned() {
			t.Errorf("R4: byte %d: %s, %d, not asked %s, %d", i, short(a), e, short(b), f)
		}
	}
}
