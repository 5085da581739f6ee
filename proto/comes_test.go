package proto_test

import (
	"bytes"
	"fmt"
	"math/rand"
	"slices"
	"sync"
	"testing"

	"arcade/api"
	"arcade/proto"
)

// whole is what a decoder tells of bytes in one piece.
func whole(b []byte) ([]api.Message, api.Errno) {
	return proto.NewDecoder().Feed(b)
}

// cut feeds bytes piece by piece; cuts are the places where the pieces end, rising. It tells all messages, and the first error; behind that each Feed must be refused. With each piece the decoder must have told what the model knows of all bytes up to there.
func cut(t *testing.T, b []byte, cuts []int) ([]api.Message, api.Errno) {
	t.Helper()
	d := proto.NewDecoder()
	var all []api.Message
	why, at := api.OK, 0
	for _, end := range append(slices.Clone(cuts), len(b)) {
		list, e := feed(t, d, b[at:end])
		at = end
		all = append(all, list...)
		if why != api.OK && (len(list) != 0 || e != api.ErrProtoDead) {
			t.Fatalf("D4: poisoned, Feed = %s, %d", short(list), e)
		}
		if why == api.OK {
			why = e
		}
		want, n, wrong := modelFrames(b[:end], modelMessage)
		waits := end - n
		if wrong != api.OK {
			waits = 0
		}
		if !slices.EqualFunc(all, want, sameMessage) || why != wrong || d.Waiting() != waits || d.Poisoned() != (wrong != api.OK) {
			t.Fatalf("D4: %s, cut at %v, up to %d: %s, %d, %d wait, want %s, %d, %d", short(b), cuts, end, short(all), why, d.Waiting(), short(want), wrong, waits)
		}
	}
	return all, why
}

// sameCut holds bytes that are cut against the same bytes in one piece.
func sameCut(t *testing.T, b []byte, cuts []int) {
	t.Helper()
	want, wrong := whole(b)
	if list, e := cut(t, b, cuts); !slices.EqualFunc(list, want, sameMessage) || e != wrong {
		t.Fatalf("D4: %s, cut at %v = %s, %d, in one piece %s, %d", short(b), cuts, short(list), e, short(want), wrong)
	}
}

// each is all places of so many bytes: every byte comes alone.
func each(n int) []int {
	var list []int
	for i := 1; i < n; i++ {
		list = append(list, i)
	}
	return list
}

// someCuts are places drawn by lot, now and then twice the same: nothing comes between.
func someCuts(draw *rand.Rand, n int) []int {
	var list []int
	for range draw.Intn(8) {
		list = append(list, draw.Intn(n+1))
	}
	slices.Sort(list)
	return list
}

// All right messages, behind one another, with pieces of each size.
func TestD4CutRight(t *testing.T) {
	all := joined(messages())
	for _, size := range []int{1, 2, 3, 4, 5, 6, 7, 11, 64, 300, 1000} {
		var cuts []int
		for at := size; at < len(all); at += size {
			cuts = append(cuts, at)
		}
		sameCut(t, all, cuts)
	}
}

// Each wrong frame between right ones, byte by byte, and cut once or twice within.
func TestD4CutWrong(t *testing.T) {
	ahead, behind := frame(3, word(5)), frame(4)
	draw := rand.New(rand.NewSource(41))
	for _, w := range wrongMessages() {
		b := slices.Concat(ahead, w.bytes, behind, behind)
		sameCut(t, b, each(len(b)))
		for range 10 {
			sameCut(t, b, someCuts(draw, len(b)))
		}
	}
}

// stream draws frames: right ones, some of them with a byte or a length that is spoilt, bytes left out or put in.
func stream[T any](draw *rand.Rand, right []coded[T]) []byte {
	var b []byte
	for range draw.Intn(6) {
		b = append(b, pick(draw, right).bytes...)
	}
	for range draw.Intn(3) {
		if len(b) == 0 {
			break
		}
		at := draw.Intn(len(b))
		switch draw.Intn(4) {
		case 0:
			b[at] = byte(draw.Intn(12))
		case 1:
			b[at] = byte(draw.Intn(256))
		case 2:
			b = slices.Delete(b, at, at+1)
		case 3:
			b = slices.Insert(b, at, byte(draw.Intn(8)))
		}
	}
	if draw.Intn(4) == 0 {
		b = append(b, text(draw.Intn(9), draw.Intn(100))...)
	}
	return b
}

// little are the right ones whose frames have few bytes, so that what is spoilt in them is seldom in the data.
func little[T any](list []coded[T]) []coded[T] {
	return slices.DeleteFunc(list, func(c coded[T]) bool { return len(c.bytes) > 40 })
}

// Bytes drawn by lot, cut by lot.
func TestD4CutByLot(t *testing.T) {
	draw := rand.New(rand.NewSource(4))
	right := little(messages())
	done := map[api.Errno]int{}
	for range 12000 {
		b := stream(draw, right)
		sameCut(t, b, someCuts(draw, len(b)))
		sameCut(t, b, each(len(b)))
		_, e := whole(b)
		done[e]++
	}
	for _, e := range []api.Errno{api.OK, api.ErrProtoLength, api.ErrProtoKind, api.ErrProtoField} {
		if done[e] < 100 {
			t.Errorf("the lot has drawn the answer %d only %d times", e, done[e])
		}
	}
}

// Bodies of any bytes, behind a length that is right.
func TestD4AnyBodies(t *testing.T) {
	draw := rand.New(rand.NewSource(44))
	for range 40000 {
		body := make([]byte, draw.Intn(14))
		for i := range body {
			body[i] = byte(pick(draw, []int{0, 0, 0, 1, 1, 2, 3, 5, 8, 9, 16, 17, 97, 122, 255, draw.Intn(256)}))
		}
		b := frame(byte(draw.Intn(11)), body)
		sameCut(t, b, someCuts(draw, len(b)))
		want, n, wrong := modelFrames(b, modelReply)
		read(t, b, n, wrong, want...)
		back(t, b)
	}
}

// back decodes bytes, as messages and as replies, and encodes what they are: these bytes.
func back(t *testing.T, b []byte) {
	t.Helper()
	d := proto.NewDecoder()
	messages, e := d.Feed(b)
	var again []byte
	for _, m := range messages {
		f, e := proto.Encode(m)
		if e != api.OK {
			t.Fatalf("D4: %s is decoded, but not encoded: %d", short([]api.Message{m}), e)
		}
		again = append(again, f...)
	}
	if !bytes.HasPrefix(b, again) || e == api.OK && len(again) != len(b)-d.Waiting() {
		t.Fatalf("D4: decoded and encoded %s is %s", short(b), short(again))
	}
	replies, n, _ := proto.DecodeReplies(b)
	again = nil
	for _, r := range replies {
		f, e := proto.EncodeReply(r)
		if e != api.OK {
			t.Fatalf("D4: %s is decoded, but not encoded: %d", short([]api.Reply{r}), e)
		}
		again = append(again, f...)
	}
	if !bytes.Equal(again, b[:n]) {
		t.Fatalf("D4: decoded and encoded %s is %s", short(b[:n]), short(again))
	}
}

// What bytes are decoded as is encoded as these bytes.
func TestD4Back(t *testing.T) {
	draw := rand.New(rand.NewSource(45))
	for range 4000 {
		back(t, stream(draw, messages()))
		back(t, stream(draw, replies()))
	}
	back(t, joined(messages()))
	back(t, joined(replies()))
	back(t, greatest().bytes)
}

// drawnMessage is a right message, any of them.
func drawnMessage(draw *rand.Rand) api.Message {
	m := api.Message{Kind: 1 + draw.Intn(7)}
	switch m.Kind {
	case api.MsgOpen:
		name := make([]byte, 1+draw.Intn(16))
		for i := range name {
			name[i] = letters[draw.Intn(len(letters))]
		}
		m.Tenant, m.Name, m.Data = 1+draw.Intn(8), string(name), make([]byte, draw.Intn(600))
		draw.Read(m.Data)
	case api.MsgKeys:
		m.N = draw.Intn(256)
	case api.MsgRun:
		m.N = 1 + draw.Intn(600)
	case api.MsgPeek:
		m.N = draw.Intn(65536)
	}
	return m
}

// drawnReply is a right reply, any of them.
func drawnReply(draw *rand.Rand) api.Reply {
	r := api.Reply{Kind: 1 + draw.Intn(9)}
	switch r.Kind {
	case api.RepOpened, api.RepSaved:
		r.N = draw.Intn(131073)
	case api.RepError:
		r.N = 1 + draw.Intn(65535)
	case api.RepByte:
		r.N = draw.Intn(256)
	case api.RepFrame:
		r.N, r.M = draw.Intn(1<<32), draw.Intn(1<<32)
	case api.RepPicture:
		r.N, r.Data = draw.Intn(1<<32), make([]byte, draw.Intn(5761))
		draw.Read(r.Data)
	case api.RepClosed, api.RepQuota:
		r.N = draw.Intn(1 << 32)
	}
	return r
}

// What is encoded is decoded as it was, one by one and many behind one another, however they are cut.
func TestD4Forth(t *testing.T) {
	draw := rand.New(rand.NewSource(46))
	for range 300 {
		var sent []api.Message
		var wire []byte
		for range draw.Intn(12) {
			m := drawnMessage(draw)
			b, e := proto.Encode(m)
			if e != api.OK {
				t.Fatalf("D2: Encode(%s) = %d", short([]api.Message{m}), e)
			}
			fed(t, proto.NewDecoder(), b, 0, m)
			sent, wire = append(sent, m), append(wire, b...)
		}
		if list, e := cut(t, wire, someCuts(draw, len(wire))); !slices.EqualFunc(list, sent, sameMessage) || e != api.OK {
			t.Fatalf("D4: encoded and decoded %s = %s, %d", short(sent), short(list), e)
		}
	}
	for range 300 {
		var sent []api.Reply
		var wire []byte
		for range draw.Intn(12) {
			r := drawnReply(draw)
			b, e := proto.EncodeReply(r)
			if e != api.OK {
				t.Fatalf("D2: EncodeReply(%s) = %d", short([]api.Reply{r}), e)
			}
			sent, wire = append(sent, r), append(wire, b...)
		}
		read(t, wire, len(wire), api.OK, sent...)
	}
}

// Replies that come in pieces: what is left behind those that are whole is read with what comes next.
func TestD4RepliesInPieces(t *testing.T) {
	draw := rand.New(rand.NewSource(47))
	for range 400 {
		b := stream(draw, little(replies()))
		want, _, wrong := proto.DecodeReplies(b)
		var list []api.Reply
		var left []byte
		why, at := api.OK, 0
		for _, end := range append(someCuts(draw, len(b)), len(b)) {
			more, n, e := proto.DecodeReplies(append(left, b[at:end]...))
			list, left, at = append(list, more...), append(left, b[at:end]...)[n:], end
			if e != api.OK {
				why = e
				break
			}
		}
		if !slices.EqualFunc(list, want, sameReply) || why != wrong {
			t.Fatalf("D4: replies in pieces %s, %d, in one %s, %d", short(list), why, short(want), wrong)
		}
	}
}

// A decoder that is poisoned tells nothing more, whatever comes.
func TestD4Poisoned(t *testing.T) {
	draw := rand.New(rand.NewSource(48))
	for _, w := range wrongMessages() {
		d := proto.NewDecoder()
		poisons(t, d, w.bytes, w.why)
		for range 5 {
			if list, e := feed(t, d, stream(draw, messages())); len(list) != 0 || e != api.ErrProtoDead {
				t.Errorf("D4: Feed, poisoned = %s, %d", short(list), e)
			}
		}
		dead(t, d)
	}
}

// answers are all that a decoder tells of a stream that is drawn, as text.
func answers(seed int64) []string {
	draw := rand.New(rand.NewSource(seed))
	d := proto.NewDecoder()
	var lines []string
	for range 200 {
		m := drawnMessage(draw)
		b, e := proto.Encode(m)
		at := draw.Intn(len(b) + 1)
		for _, piece := range [][]byte{b[:at], b[at:]} {
			list, f := d.Feed(piece)
			lines = append(lines, fmt.Sprint(e, list, f, d.Waiting(), d.Poisoned()))
		}
		r, e := proto.EncodeReply(drawnReply(draw))
		list, n, f := proto.DecodeReplies(r)
		lines = append(lines, fmt.Sprint(e, list, n, f))
	}
	return lines
}

// Decoders have nothing to do with one another: side by side each tells what it tells alone.
func TestD4Apart(t *testing.T) {
	var want, got [8][]string
	for i := range want {
		want[i] = answers(int64(i))
	}
	var all sync.WaitGroup
	for i := range got {
		all.Go(func() { got[i] = answers(int64(i)) })
	}
	all.Wait()
	for i := range want {
		if !slices.Equal(want[i], got[i]) {
			t.Errorf("R4: the decoder %d hangs on others", i)
		}
	}
	poisoned, other := proto.NewDecoder(), proto.NewDecoder()
	fed(t, other, []byte{0, 0}, 2)
	poisons(t, poisoned, long(0), api.ErrProtoLength)
	fed(t, other, []byte{0, 1, 7}, 0, api.Message{Kind: api.MsgClose})
}
