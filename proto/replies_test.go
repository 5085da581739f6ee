package proto_test

import (
	"slices"
	"testing"

	"arcade/api"
	"arcade/proto"
)

func TestD3Examples(t *testing.T) {
	read(t, []byte{0, 0, 0, 1, 2, 0, 0}, 5, api.OK, api.Reply{Kind: api.RepBusy})
	read(t, nil, 0, api.OK)
	read(t, []byte{}, 0, api.OK)
	read(t, []byte{0, 0, 0}, 0, api.OK)
	read(t, []byte{0, 0, 0, 0}, 0, api.ErrProtoLength)
	read(t, []byte{0, 0, 0, 1, 10}, 0, api.ErrProtoKind)
}

// Each right reply, alone, cut at any place, and with a part of the next one.
func TestD3Replies(t *testing.T) {
	for _, c := range replies() {
		read(t, c.bytes, len(c.bytes), api.OK, c.is)
		for at := range min(len(c.bytes), 600) {
			read(t, c.bytes[:at], 0, api.OK)
		}
		read(t, c.bytes[:len(c.bytes)-1], 0, api.OK)
		for at := range 5 {
			read(t, append(slices.Clone(c.bytes), frame(2)[:at]...), len(c.bytes), api.OK, c.is)
		}
		read(t, append(slices.Clone(c.bytes), frame(2)...), len(c.bytes)+5, api.OK, c.is, api.Reply{Kind: api.RepBusy})
	}
}

// All of them one behind the other; of any piece from the front those that are whole.
func TestD3Several(t *testing.T) {
	list := slices.DeleteFunc(replies(), func(c coded[api.Reply]) bool { return len(c.bytes) > 300 })
	all, want := joined(list), told(list)
	read(t, all, len(all), api.OK, want...)
	many, end := 0, 0
	for at := range all {
		for end+len(list[many].bytes) <= at {
			end += len(list[many].bytes)
			many++
		}
		read(t, all[:at], end, api.OK, want[:many]...)
	}
	long := joined(replies())
	read(t, long, len(long), api.OK, told(replies())...)
}

// What is wrong is told if its last byte is there, with the replies ahead of it; what stands behind it is passed over.
func TestD3Wrong(t *testing.T) {
	ahead := append(frame(2), frame(7, []byte{9})...)
	busy, nine := api.Reply{Kind: api.RepBusy}, api.Reply{Kind: api.RepByte, N: 9}
	for _, w := range wrongReplies() {
		read(t, w.bytes, 0, w.why)
		read(t, slices.Concat(w.bytes, frame(2)), 0, w.why)
		read(t, slices.Concat(ahead, w.bytes), 11, w.why, busy, nine)
		read(t, slices.Concat(ahead, w.bytes, frame(2), long(0)), 11, w.why, busy, nine)
		for at := range min(len(w.bytes), 300) {
			read(t, slices.Concat(ahead, w.bytes[:at]), 11, api.OK, busy, nine)
		}
		read(t, w.bytes[:len(w.bytes)-1], 0, api.OK)
	}
}

// The longest frames that may be are wrong, when they are whole.
func TestD3Lengths(t *testing.T) {
	for _, n := range []int{5774, 65536, 262399, 262400} {
		for kind, why := range []api.Errno{api.ErrProtoKind, api.ErrProtoLength, api.ErrProtoLength, api.ErrProtoField, api.ErrProtoLength, api.ErrProtoLength} {
			b := append(append(long(n), byte(kind)), make([]byte, n-1)...)
			read(t, b[:len(b)-1], 0, api.OK)
			read(t, b, 0, why)
		}
	}
}

// Each byte as a kind.
func TestD3Kinds(t *testing.T) {
	for kind := range 256 {
		for _, body := range [][]byte{nil, {1}, {0, 2}, {0, 0, 0, 3}, {0, 0, 0, 1, 0, 0, 0, 0}} {
			want, why := modelReply(append([]byte{byte(kind)}, body...))
			if kind == 0 || kind > 9 {
				why = api.ErrProtoKind
			}
			if b := frame(byte(kind), body); why == api.OK {
				read(t, b, len(b), why, want)
			} else {
				read(t, b, 0, why)
			}
		}
	}
}

// Nothing is kept from call to call: behind something wrong the next call reads as ever.
func TestD3NotKept(t *testing.T) {
	for range 3 {
		read(t, frame(7, []byte{5})[:5], 0, api.OK)
		read(t, []byte{5}, 0, api.OK)
		read(t, frame(200), 0, api.ErrProtoKind)
		read(t, frame(2), 5, api.OK, api.Reply{Kind: api.RepBusy})
	}
}

// What is told is new memory.
func TestD3NewMemory(t *testing.T) {
	a, b := api.Reply{Kind: api.RepPicture, N: 1, Data: text(64, 1)}, api.Reply{Kind: api.RepPicture, N: 2, Data: text(64, 2)}
	both := append(frame(5, long(1), long(64), a.Data), frame(5, long(2), long(64), b.Data)...)
	given := slices.Clone(both)
	list, _, _ := proto.DecodeReplies(given)
	again, _, _ := proto.DecodeReplies(given)
	if len(list) != 2 || len(again) != 2 {
		t.Fatalf("D3: DecodeReplies of two = %s, %s", short(list), short(again))
	}
	scratch(list[0].Data)
	_ = append(list[0].Data, text(100, 5)...)
	if !sameReply(list[1], b) {
		t.Errorf("R3: one reply's data are another one's")
	}
	scratch(list[1].Data)
	_ = append(list[1].Data, text(100, 5)...)
	_ = append(list[:0], api.Reply{}, api.Reply{})
	if !slices.Equal(given, both) || !slices.EqualFunc(again, []api.Reply{a, b}, sameReply) {
		t.Errorf("R3: what is told shares memory with what was handed in, or told elsewhere")
	}
	scratch(given)
	if !slices.EqualFunc(again, []api.Reply{a, b}, sameReply) {
		t.Errorf("R3: what is told hangs on what was handed in")
	}
}
