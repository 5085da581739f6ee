package saves

import (
	"bytes"
	"errors"
	"hash/crc32"
	"testing"

	"arcade/api"
	"arcade/block"
)

// What is wrong inside wraps one of the errors, by which it is told apart.
func TestV1FaultsWrap(t *testing.T) {
	kinds := []error{errNone, errFull, errBroken, errDead}
	for i, want := range []api.Errno{api.ErrSaveNone, api.ErrSaveFull, api.ErrSaveBroken, api.ErrSaveDead} {
		wrapped := fault{err: fault{err: kinds[i], sector: 7, why: "inner"}, sector: 12, why: "outer"}
		if e := errno(wrapped); e != want {
			t.Errorf("errno(%v) = %d, want %d", wrapped, e, want)
		}
		if e := errno(kinds[i]); e != want {
			t.Errorf("errno(%v) = %d, want %d", kinds[i], e, want)
		}
		for j, kind := range kinds {
			if errors.Is(wrapped, kind) != (i == j) {
				t.Errorf("errors.Is(%v, %v)", wrapped, kind)
			}
		}
	}
	if e := errno(nil); e != api.OK {
		t.Errorf("errno(nil) = %d", e)
	}
	f := fault{err: errDead, sector: 12, why: "why"}
	if text := f.Error(); text != "the store has refused a write at sector 12: why" {
		t.Errorf("Error() = %q", text)
	}
}

// What is found wrong says at which sector of the store, not of the area.
func TestV1FaultsHaveAPlace(t *testing.T) {
	b, _ := block.New(196)
	if e := b.Write(24+2, bytes.Repeat([]byte{9}, api.SectorSize)); e != api.OK {
		t.Fatal(e)
	}
	var f fault
	if err := settle(b); !errors.As(err, &f) || !errors.Is(err, errBroken) || f.sector != 26 {
		t.Errorf("settle = %v", err)
	}
	b, _ = block.New(196)
	b.Limit(0)
	if err := areaOf(b, 3).put("a", []byte{1}); !errors.As(err, &f) || !errors.Is(err, errDead) || f.sector != 2*24+3 {
		t.Errorf("put = %v", err)
	}
}

// Whoever ranges over the data sectors of a save may stop at each of them.
func TestV3PiecesAreLeft(t *testing.T) {
	b, _ := block.New(196)
	a := areaOf(b, 2)
	data := bytes.Repeat([]byte{5}, 1500)
	if err := a.put("a", data); err != nil {
		t.Fatal(err)
	}
	e, err := a.find("a")
	if err != nil {
		t.Fatal(err)
	}
	for stop := range 4 {
		var seen []int
		for p, err := range a.pieces(e.head) {
			if err != nil || len(p.bytes) != 510 {
				t.Errorf("a data sector of %d bytes, %v", len(p.bytes), err)
			}
			if len(seen) == stop {
				break
			}
			seen = append(seen, p.number)
		}
		if want := []int{3, 4, 5}[:stop]; len(seen) != stop || stop > 0 && seen[stop-1] != want[stop-1] {
			t.Errorf("data sectors %v, want %v", seen, want)
		}
	}
}

// The sum is that of 32 bits that many know.
func TestV2Sum(t *testing.T) {
	if n := sumOf([]byte("123456789")); n != 0xcbf43926 {
		t.Errorf("the sum of 123456789 is %x", n)
	}
	if n := sumOf(make([]byte, 4)); n != 0x2144df1c {
		t.Errorf("the sum of four bytes 0 is %x", n)
	}
	b := make([]byte, 0, 600)
	for i := range 600 {
		if n := sumOf(b); n != int(crc32.ChecksumIEEE(b)) {
			t.Errorf("the sum of %d bytes is %x", len(b), n)
		}
		b = append(b, byte(i*i+3*i))
	}
}
