package proto

import (
	"testing"

	"arcade/api"
)

// Who gives up is caught, with why; a fault of the program itself is not hidden.
func TestD1Attempt(t *testing.T) {
	for _, why := range []api.Errno{api.ErrProtoLength, api.ErrProtoKind, api.ErrProtoField} {
		if e := attempt(func() { giveUp(why) }); e != why {
			t.Errorf("attempt = %d, want %d", e, why)
		}
	}
	done := false
	if e := attempt(func() { done = true }); e != api.OK || !done {
		t.Errorf("attempt = %d, done %v", e, done)
	}
	defer func() {
		if x := recover(); x != "a fault" {
			t.Errorf("a panic of another kind comes out as %v", x)
		}
	}()
	attempt(func() { panic("a fault") })
}

// Each kind stands in its table once, and with no number that is no kind.
func TestD2Tables(t *testing.T) {
	for most, kinds := range map[int][]kind{api.MsgClose: messageKinds(), api.RepQuota: replyKinds()} {
		seen := map[int]int{}
		for _, k := range kinds {
			seen[k.number]++
		}
		for number := 1; number <= most; number++ {
			if seen[number] != 1 {
				t.Errorf("the kind %d stands %d times in its table", number, seen[number])
			}
		}
		if len(seen) != most {
			t.Errorf("the table has %d kinds, want %d", len(seen), most)
		}
	}
}

// What was read is not kept with what waits.
func TestD1Room(t *testing.T) {
	frame, e := Encode(api.Message{Kind: api.MsgOpen, Tenant: 1, Name: "a", Data: make([]byte, api.MaxRom)})
	if e != api.OK {
		t.Fatalf("Encode = %d", e)
	}
	for _, rest := range [][]byte{nil, {0}, {0, 0, 0, 2, 2}} {
		d := NewDecoder()
		if list, e := d.Feed(append(frame[:len(frame):len(frame)], rest...)); len(list) != 1 || e != api.OK || d.Waiting() != len(rest) {
			t.Errorf("Feed = %d messages, %d; %d wait", len(list), e, d.Waiting())
		}
		if cap(d.waiting) > 100 {
			t.Errorf("%d bytes wait, in room for %d", len(rest), cap(d.waiting))
		}
	}
	d := NewDecoder()
	d.Feed(frame[:1000])
	d.Feed(frame[1000:])
	d.Feed([]byte{0, 0, 0, 0})
	if d.waiting != nil {
		t.Errorf("a decoder that is poisoned keeps %d bytes", len(d.waiting))
	}
}
