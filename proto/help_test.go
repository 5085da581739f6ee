package proto_test

import (
	"bytes"
	"fmt"
	"math"
	"slices"
	"strings"
	"testing"

	"arcade/api"
	"arcade/proto"
)

// letters are all bytes that a name may have.
const letters = "abcdefghijklmnopqrstuvwxyz0123456789-_"

// far are numbers that are beyond all bounds, and of which the lowest bytes may be within some.
var far = []int{math.MinInt, math.MinInt + 1, math.MinInt32, -1<<32 + 1, -65535, -65280, -255, -254, -2, -1, 1 << 32, 1<<32 + 1, 1<<33 + 5, 1<<40 + 3, 1<<62 + 1, math.MaxInt - 1, math.MaxInt}

// farKinds are numbers that are no kind, and of which the lowest byte may be one.
var farKinds = append([]int{0, -1, -7, -255, -249, 10, 11, 100, 255, 256, 257, 258, 263, 264, 65537, 65543}, far...)

func long(n int) []byte {
	return []byte{byte(n >> 24), byte(n >> 16), byte(n >> 8), byte(n)}
}

func word(n int) []byte {
	return []byte{byte(n >> 8), byte(n)}
}

// text is so many bytes, others for each seed.
func text(n, seed int) []byte {
	b := make([]byte, n)
	for i := range b {
		b[i] = byte(i*i + 7*i + i>>8 + 31*seed)
	}
	return b
}

// frame is a frame with its length, of the kind and the body in pieces.
func frame(kind byte, body ...[]byte) []byte {
	all := slices.Concat(body...)
	return slices.Concat(long(1+len(all)), []byte{kind}, all)
}

// opening is a frame of an Open, in the order of its parts.
func opening(tenant int, name string, data []byte) []byte {
	return frame(1, []byte{byte(tenant), byte(len(name))}, []byte(name), long(len(data)), data)
}

func open(tenant int, name string, data []byte) api.Message {
	return api.Message{Kind: api.MsgOpen, Tenant: tenant, Name: name, Data: data}
}

// coded is a message or a reply, and its frame.
type coded[T any] struct {
	is    T
	bytes []byte
}

// messages are right ones of each kind: ordinary ones, and those at the edges of their bounds.
func messages() []coded[api.Message] {
	var list []coded[api.Message]
	add := func(m api.Message, b []byte) { list = append(list, coded[api.Message]{m, b}) }
	for _, tenant := range []int{1, 2, 7, 8} {
		add(open(tenant, "ab", []byte{7, 8}), opening(tenant, "ab", []byte{7, 8}))
	}
	for _, name := range []string{"a", "z", "0", "9", "-", "_", letters[:16], letters[16:32], letters[22:]} {
		add(open(3, name, text(5, 1)), opening(3, name, text(5, 1)))
	}
	for _, n := range []int{0, 1, 255, 256, 257, 300} {
		add(open(8, "x", text(n, 2)), opening(8, "x", text(n, 2)))
	}
	for _, n := range []int{0, 1, 2, 127, 128, 129, 254, 255} {
		add(api.Message{Kind: api.MsgKeys, N: n}, frame(2, []byte{byte(n)}))
	}
	for _, n := range []int{1, 2, 255, 256, 257, 511, 512, 599, 600} {
		add(api.Message{Kind: api.MsgRun, N: n}, frame(3, word(n)))
	}
	for _, n := range []int{0, 1, 255, 256, 600, 601, 32767, 32768, 49152, 65534, 65535} {
		add(api.Message{Kind: api.MsgPeek, N: n}, frame(6, word(n)))
	}
	for _, kind := range []int{api.MsgLook, api.MsgSave, api.MsgClose} {
		add(api.Message{Kind: kind}, frame(byte(kind)))
	}
	return list
}

// greatest is the message of the most bytes, and its frame.
func greatest() coded[api.Message] {
	data := text(262144, 3)
	name := letters[20:36]
	return coded[api.Message]{open(8, name, data), opening(8, name, data)}
}

// replies are right ones of each kind, likewise.
func replies() []coded[api.Reply] {
	var list []coded[api.Reply]
	add := func(r api.Reply, b []byte) { list = append(list, coded[api.Reply]{r, b}) }
	for _, n := range []int{0, 1, 255, 256, 8192, 65535, 65536, 131071, 131072} {
		add(api.Reply{Kind: api.RepOpened, N: n}, frame(1, long(n)))
		add(api.Reply{Kind: api.RepSaved, N: n}, frame(6, long(n)))
	}
	add(api.Reply{Kind: api.RepBusy}, frame(2))
	for _, n := range []int{1, 2, 121, 255, 256, 65534, 65535} {
		add(api.Reply{Kind: api.RepError, N: n}, frame(3, word(n)))
	}
	for _, n := range []int{0, 1, 256, 131072, 131073, 1<<24 + 2, 1 << 31, 4294967294, 4294967295} {
		add(api.Reply{Kind: api.RepFrame, N: n, M: 4294967295 - n}, frame(4, long(n), long(4294967295-n)))
		add(api.Reply{Kind: api.RepFrame, N: n, M: n / 2}, frame(4, long(n), long(n/2)))
		add(api.Reply{Kind: api.RepPicture, N: n, Data: text(n%7, 1)}, frame(5, long(n), long(n%7), text(n%7, 1)))
		add(api.Reply{Kind: api.RepClosed, N: n}, frame(8, long(n)))
		add(api.Reply{Kind: api.RepQuota, N: n}, frame(9, long(n)))
	}
	for _, n := range []int{0, 1, 127, 128, 254, 255} {
		add(api.Reply{Kind: api.RepByte, N: n}, frame(7, []byte{byte(n)}))
	}
	for _, n := range []int{0, 1, 255, 256, 5759, 5760} {
		add(api.Reply{Kind: api.RepPicture, N: 5, Data: text(n, 4)}, frame(5, long(5), long(n), text(n, 4)))
	}
	return list
}

// sameMessage tells whether two are the same; no bytes are the same as an empty list of them.
func sameMessage(a, b api.Message) bool {
	return a.Kind == b.Kind && a.Tenant == b.Tenant && a.Name == b.Name && a.N == b.N && bytes.Equal(a.Data, b.Data)
}

func sameReply(a, b api.Reply) bool {
	return a.Kind == b.Kind && a.N == b.N && a.M == b.M && bytes.Equal(a.Data, b.Data)
}

// short is a list as text that can be read, whatever it is of.
func short[T any](list []T) string {
	var lines []string
	for _, x := range list {
		line := fmt.Sprint(x)
		if len(line) > 60 {
			line = fmt.Sprintf("%s.. (%d letters)", line[:60], len(line))
		}
		lines = append(lines, line)
		if len(lines) == 12 {
			return strings.Join(lines, " ") + fmt.Sprintf(" .. (%d in all)", len(list))
		}
	}
	return "[" + strings.Join(lines, " ") + "]"
}

// roomy is the same bytes in a list with spare room, which has bytes of its own.
func roomy(b []byte) []byte {
	return append(slices.Clone(b), text(20, 9)...)[:len(b)]
}

// spared tells whether a roomy list, and its spare room, are as they were.
func spared(given, b []byte) bool {
	return bytes.Equal(given[:len(given)+20], append(slices.Clone(b), text(20, 9)...))
}

// scratch writes over a list and all its spare room.
func scratch(b []byte) {
	b = b[:cap(b)]
	for i := range b {
		b[i] ^= 0xa5
	}
}

// feed gives bytes to a decoder, in a list that is written over then.
func feed(t *testing.T, d *proto.Decoder, b []byte) ([]api.Message, api.Errno) {
	t.Helper()
	given := roomy(b)
	list, e := d.Feed(given)
	if !spared(given, b) {
		t.Errorf("D1: Feed of %s has changed its bytes", short(b))
	}
	scratch(given)
	return list, e
}

// fed is a Feed that answers so; then so many bytes wait.
func fed(t *testing.T, d *proto.Decoder, b []byte, waits int, want ...api.Message) {
	t.Helper()
	list, e := feed(t, d, b)
	if !slices.EqualFunc(list, want, sameMessage) || e != api.OK {
		t.Errorf("D1: Feed of %s = %s, %d, want %s", short(b), short(list), e, short(want))
	}
	if d.Poisoned() || d.Waiting() != waits {
		t.Errorf("D1: behind Feed of %s: Poisoned %v, Waiting %d, want %d", short(b), d.Poisoned(), d.Waiting(), waits)
	}
}

// poisons is a Feed that answers an error, behind some messages; from then on nothing more is told.
func poisons(t *testing.T, d *proto.Decoder, b []byte, why api.Errno, want ...api.Message) {
	t.Helper()
	list, e := feed(t, d, b)
	if !slices.EqualFunc(list, want, sameMessage) || e != why {
		t.Errorf("D1: Feed of %s = %s, %d, want %s, %d", short(b), short(list), e, short(want), why)
	}
	dead(t, d)
}

// dead is a decoder that tells nothing more, whatever comes.
func dead(t *testing.T, d *proto.Decoder) {
	t.Helper()
	for _, b := range [][]byte{nil, {}, {0}, frame(4), frame(9), long(0), frame(2, []byte{5}), text(300, 1)} {
		if !d.Poisoned() || d.Waiting() != 0 {
			t.Errorf("D1: a decoder that is poisoned: Poisoned %v, Waiting %d", d.Poisoned(), d.Waiting())
		}
		if list, e := feed(t, d, b); len(list) != 0 || e != api.ErrProtoDead {
			t.Errorf("D1: Feed of %s, poisoned = %s, %d", short(b), short(list), e)
		}
	}
}

// read is DecodeReplies that answers so.
func read(t *testing.T, b []byte, at int, why api.Errno, want ...api.Reply) {
	t.Helper()
	given := roomy(b)
	list, n, e := proto.DecodeReplies(given)
	if !spared(given, b) {
		t.Errorf("D3: DecodeReplies of %s has changed its bytes", short(b))
	}
	scratch(given)
	if !slices.EqualFunc(list, want, sameReply) || n != at || e != why {
		t.Errorf("D3: DecodeReplies of %s = %s, %d, %d, want %s, %d, %d", short(b), short(list), n, e, short(want), at, why)
	}
}
