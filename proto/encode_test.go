package proto_test

import (
	"bytes"
	"math/rand"
	"slices"
	"strings"
	"testing"

	"arcade/api"
	"arcade/proto"
)

// encoded is a message that is encoded so.
func encoded(t *testing.T, m api.Message, want []byte) {
	t.Helper()
	data := m.Data
	m.Data = roomy(data)
	b, e := proto.Encode(m)
	if !bytes.Equal(b, want) || e != api.OK {
		t.Errorf("D2: Encode(%s) = %s, %d, want %s", short([]api.Message{m}), short(b), e, short(want))
	}
	given := m.Data
	scratch(b)
	if !spared(given, data) {
		t.Errorf("D2: Encode(%s) has changed the data, or shares them", short([]api.Message{m}))
	}
}

func encodedReply(t *testing.T, r api.Reply, want []byte) {
	t.Helper()
	data := r.Data
	r.Data = roomy(data)
	b, e := proto.EncodeReply(r)
	if !bytes.Equal(b, want) || e != api.OK {
		t.Errorf("D2: EncodeReply(%s) = %s, %d, want %s", short([]api.Reply{r}), short(b), e, short(want))
	}
	scratch(b)
	if !spared(r.Data, data) {
		t.Errorf("D2: EncodeReply(%s) has changed the data, or shares them", short([]api.Reply{r}))
	}
}

func notEncoded(t *testing.T, m api.Message, why api.Errno) {
	t.Helper()
	if b, e := proto.Encode(m); len(b) != 0 || e != why {
		t.Errorf("D2: Encode(%s) = %s, %d, want %d", short([]api.Message{m}), short(b), e, why)
	}
}

func notEncodedReply(t *testing.T, r api.Reply, why api.Errno) {
	t.Helper()
	if b, e := proto.EncodeReply(r); len(b) != 0 || e != why {
		t.Errorf("D2: EncodeReply(%s) = %s, %d, want %d", short([]api.Reply{r}), short(b), e, why)
	}
}

func TestD2Examples(t *testing.T) {
	encoded(t, api.Message{Kind: api.MsgKeys, N: 129}, []byte{0, 0, 0, 2, 2, 129})
	encoded(t, api.Message{Kind: api.MsgRun, N: 600}, []byte{0, 0, 0, 3, 3, 2, 88})
	encoded(t, api.Message{Kind: api.MsgRun, N: 5}, []byte{0, 0, 0, 3, 3, 0, 5})
	encoded(t, open(3, "ab", []byte{7, 8}), []byte{0, 0, 0, 11, 1, 3, 2, 97, 98, 0, 0, 0, 2, 7, 8})
	encodedReply(t, api.Reply{Kind: api.RepBusy}, []byte{0, 0, 0, 1, 2})
	encodedReply(t, api.Reply{Kind: api.RepFrame, N: 1, M: 0x2144df1c}, []byte{0, 0, 0, 9, 4, 0, 0, 0, 1, 0x21, 0x44, 0xdf, 0x1c})
}

func TestD2Messages(t *testing.T) {
	for _, c := range append(messages(), greatest()) {
		encoded(t, c.is, c.bytes)
	}
	encoded(t, api.Message{Kind: api.MsgLook, Data: []byte{}}, frame(4))
	encoded(t, api.Message{Kind: api.MsgOpen, Tenant: 1, Name: "a"}, opening(1, "a", nil))
}

func TestD2Replies(t *testing.T) {
	for _, c := range replies() {
		encodedReply(t, c.is, c.bytes)
	}
	encodedReply(t, api.Reply{Kind: api.RepBusy, Data: []byte{}}, frame(2))
	encodedReply(t, api.Reply{Kind: api.RepPicture}, frame(5, long(0), long(0)))
}

// A kind that is not is told ahead of fields that may not be.
func TestD2Kinds(t *testing.T) {
	for _, kind := range append([]int{8, 9}, farKinds...) {
		notEncoded(t, api.Message{Kind: kind}, api.ErrProtoKind)
		notEncoded(t, api.Message{Kind: kind, Tenant: 99, Name: "A", N: -1, Data: text(3, 1)}, api.ErrProtoKind)
	}
	for _, kind := range farKinds {
		notEncodedReply(t, api.Reply{Kind: kind}, api.ErrProtoKind)
		notEncodedReply(t, api.Reply{Kind: kind, N: -1, M: -1, Data: text(3, 1)}, api.ErrProtoKind)
	}
}

// Each number just beyond its bounds, and far beyond them.
func TestD2Bounds(t *testing.T) {
	for _, n := range append([]int{0, 9, 10, 16, 255, 256, 257, 264}, far...) {
		notEncoded(t, open(n, "a", nil), api.ErrProtoField)
	}
	for _, n := range append([]int{256, 257, 511, 65535, 65536}, far...) {
		notEncoded(t, api.Message{Kind: api.MsgKeys, N: n}, api.ErrProtoField)
		notEncodedReply(t, api.Reply{Kind: api.RepByte, N: n}, api.ErrProtoField)
	}
	for _, n := range append([]int{0, 601, 602, 65535, 65536, 65537, 66136}, far...) {
		notEncoded(t, api.Message{Kind: api.MsgRun, N: n}, api.ErrProtoField)
	}
	for _, n := range append([]int{65536, 65537, 131071}, far...) {
		notEncoded(t, api.Message{Kind: api.MsgPeek, N: n}, api.ErrProtoField)
		notEncodedReply(t, api.Reply{Kind: api.RepError, N: n}, api.ErrProtoField)
	}
	notEncodedReply(t, api.Reply{Kind: api.RepError}, api.ErrProtoField)
	for _, n := range append([]int{131073, 131074, 4294967295}, far...) {
		notEncodedReply(t, api.Reply{Kind: api.RepOpened, N: n}, api.ErrProtoField)
		notEncodedReply(t, api.Reply{Kind: api.RepSaved, N: n}, api.ErrProtoField)
	}
	for _, n := range far {
		for _, kind := range []int{api.RepFrame, api.RepPicture, api.RepClosed, api.RepQuota} {
			notEncodedReply(t, api.Reply{Kind: kind, N: n}, api.ErrProtoField)
		}
		notEncodedReply(t, api.Reply{Kind: api.RepFrame, M: n}, api.ErrProtoField)
	}
}

func TestD2Names(t *testing.T) {
	for _, name := range []string{"", strings.Repeat("a", 17), strings.Repeat("a", 18), strings.Repeat("a", 256), strings.Repeat("a", 257), strings.Repeat("a", 272), strings.Repeat("a", 70000), "a\xff", "ä", "a b", letters[:16] + "A"} {
		notEncoded(t, open(1, name, nil), api.ErrProtoField)
	}
	for x := range 256 {
		for _, name := range []string{string([]byte{byte(x)}), letters[:15] + string([]byte{byte(x)}), string([]byte{byte(x), 'a'})} {
			if strings.IndexByte(letters, byte(x)) >= 0 {
				encoded(t, open(1, name, nil), opening(1, name, nil))
			} else {
				notEncoded(t, open(1, name, nil), api.ErrProtoField)
			}
		}
	}
	for n := 1; n <= 16; n++ {
		encoded(t, open(1, letters[:n], nil), opening(1, letters[:n], nil))
	}
}

func TestD2Data(t *testing.T) {
	for _, n := range []int{262145, 262146, 262400, 1 << 20} {
		notEncoded(t, open(1, "a", make([]byte, n)), api.ErrProtoField)
	}
	for _, n := range []int{262143, 262144} {
		encoded(t, open(1, "a", text(n, 1)), opening(1, "a", text(n, 1)))
	}
	for _, n := range []int{5761, 5762, 23040, 262144, 262145} {
		notEncodedReply(t, api.Reply{Kind: api.RepPicture, Data: make([]byte, n)}, api.ErrProtoField)
	}
}

// A field that the kind does not have, in a message that is right without it.
func TestD2FieldsTooMany(t *testing.T) {
	for _, c := range messages() {
		m := c.is
		for _, n := range []int{1, -1, 8, 1 << 32} {
			if m.Kind != api.MsgOpen {
				tenant := m
				tenant.Tenant = n
				notEncoded(t, tenant, api.ErrProtoField)
			}
			if m.Kind != api.MsgKeys && m.Kind != api.MsgRun && m.Kind != api.MsgPeek {
				number := m
				number.N = n
				notEncoded(t, number, api.ErrProtoField)
			}
		}
		if m.Kind != api.MsgOpen {
			name, data := m, m
			name.Name = "a"
			notEncoded(t, name, api.ErrProtoField)
			data.Data = []byte{0}
			notEncoded(t, data, api.ErrProtoField)
			data.Data = text(262145, 1)
			notEncoded(t, data, api.ErrProtoField)
		}
	}
	for _, c := range replies() {
		r := c.is
		for _, n := range []int{1, -1, 1 << 32} {
			if r.Kind == api.RepBusy {
				notEncodedReply(t, api.Reply{Kind: r.Kind, N: n}, api.ErrProtoField)
			}
			if r.Kind != api.RepFrame {
				m := r
				m.M = n
				notEncodedReply(t, m, api.ErrProtoField)
			}
		}
		if r.Kind != api.RepPicture {
			r.Data = []byte{0}
			notEncodedReply(t, r, api.ErrProtoField)
		}
	}
}

// Messages drawn by lot, right and wrong in several fields, are encoded where the model says so.
func TestD2Model(t *testing.T) {
	draw := rand.New(rand.NewSource(2))
	numbers := append([]int{0, 0, 0, 0, 0, 0, 0, 0, 1, 1, 2, 8, 9, 255, 256, 600, 601, 65535, 65536, 131072, 131073, 4294967295}, far...)
	names := []string{"", "", "", "a", "-_", letters[:16], letters[:17], "A"}
	lists := [][]byte{nil, nil, nil, {}, {0}, text(5760, 1), text(5761, 1)}
	done := map[api.Errno]int{}
	for range 60000 {
		m := api.Message{Kind: draw.Intn(10) - 1, Tenant: pick(draw, numbers), Name: pick(draw, names), N: pick(draw, numbers), Data: pick(draw, lists)}
		b, e := proto.Encode(m)
		if want := modelMay(m); e != want || (len(b) == 0) != (e != api.OK) {
			t.Fatalf("D2: Encode(%s) = %s, %d, want %d", short([]api.Message{m}), short(b), e, want)
		}
		done[e]++
		r := api.Reply{Kind: draw.Intn(12) - 1, N: pick(draw, numbers), M: pick(draw, numbers), Data: pick(draw, lists)}
		b, e = proto.EncodeReply(r)
		if want := modelMayReply(r); e != want || (len(b) == 0) != (e != api.OK) {
			t.Fatalf("D2: EncodeReply(%s) = %s, %d, want %d", short([]api.Reply{r}), short(b), e, want)
		}
		done[e]++
	}
	for _, e := range []api.Errno{api.OK, api.ErrProtoKind, api.ErrProtoField} {
		if done[e] < 1000 {
			t.Errorf("the lot has drawn the answer %d only %d times", e, done[e])
		}
	}
}

func pick[T any](draw *rand.Rand, list []T) T {
	return list[draw.Intn(len(list))]
}

// The same again gives the same bytes, in memory of their own.
func TestD2NewMemory(t *testing.T) {
	for _, c := range messages() {
		a, _ := proto.Encode(c.is)
		b, _ := proto.Encode(c.is)
		_ = append(a, text(50, 1)...)
		scratch(a)
		if !bytes.Equal(b, c.bytes) {
			t.Errorf("R3: two Encodes of %s share memory", short([]api.Message{c.is}))
		}
	}
	for _, c := range replies() {
		a, _ := proto.EncodeReply(c.is)
		b, _ := proto.EncodeReply(c.is)
		_ = append(a, text(50, 1)...)
		scratch(a)
		if !slices.Equal(b, c.bytes) {
			t.Errorf("R3: two EncodeReplies of %s share memory", short([]api.Reply{c.is}))
		}
	}
}
