package saves_test

import (
	"bytes"
	"testing"

	"arcade/api"
)

// By rising names, byte by byte: '-', digits, '_', letters; a name stands ahead of those that begin with it.
func TestV3List(t *testing.T) {
	_, s := fresh(t, 4096)
	names := []string{"-", "--", "-9", "-_", "-a", "0", "00", "0_", "10", "2", "9", "9z", "_", "_-", "__", "_a", "a", "a-", "a0", "a_", "aa", "aaaaaaaaaaaaaaa", "aaaaaaaaaaaaaaaa", "ab", "b", "z", "zzzzzzzzzzzzzzzz"}
	var want []api.SaveInfo
	for i, name := range names {
		want = append(want, api.SaveInfo{Name: name, Version: 1 + i%3, Size: 37 * i})
	}
	for i := range names {
		at := (i*11 + 5) % len(names)
		for range want[at].Version {
			put(t, s, 5, names[at], text(37*at, 1))
		}
	}
	list(t, s, 5, want...)
	list(t, s, 4)
	list(t, s, 6)
	drop(t, s, 5, "a")
	list(t, s, 5, append(want[:16:16], want[17:]...)...)
}

func TestV3Used(t *testing.T) {
	_, s := fresh(t, 800)
	sum := 0
	for i, n := range []int{0, 1, 510, 511, 1020, 1021, 5100} {
		name := string(letters[i])
		put(t, s, 1, name, text(n, i))
		sum += 1 + many(n)
		used(t, s, 1, sum)
		put(t, s, 1, name, text(n, i+1))
		used(t, s, 1, sum)
		used(t, s, 2, 0)
	}
	drop(t, s, 1, string(letters[5]))
	used(t, s, 1, sum-4)
}

func TestV3Get(t *testing.T) {
	_, s := fresh(t, 196)
	for tenant := 1; tenant <= 8; tenant++ {
		for _, name := range []string{"a", "b"} {
			notGot(t, s, tenant, name, api.ErrSaveNone)
			put(t, s, tenant, name, text(100*tenant, int(name[0])))
		}
	}
	for tenant := 1; tenant <= 8; tenant++ {
		get(t, s, tenant, "a", text(100*tenant, 'a'))
		get(t, s, tenant, "b", text(100*tenant, 'b'))
		for _, name := range []string{"c", "aa", "ab", "-", "aaaaaaaaaaaaaaaa"} {
			notGot(t, s, tenant, name, api.ErrSaveNone)
		}
	}
}

// Bytes of all kinds come back as they were: those of 0 at the end, too.
func TestV3AnyBytes(t *testing.T) {
	_, s := fresh(t, 196)
	all := make([]byte, 768)
	for i := range 256 {
		all[i], all[767-i] = byte(i), byte(i)
	}
	for _, data := range [][]byte{all, make([]byte, 510), make([]byte, 700), make([]byte, 1), bytes.Repeat([]byte{255}, 1020)} {
		put(t, s, 1, "a", data)
		get(t, s, 1, "a", data)
	}
}

// What is told is new memory: whoever writes into it, or makes it longer, changes neither the saves nor what was told to others.
func TestV3NewMemory(t *testing.T) {
	b, s := fresh(t, 196)
	put(t, s, 1, "a", text(700, 1))
	put(t, s, 1, "b", text(510, 2))
	put(t, s, 1, "c", nil)
	was, image := tells(s), b.Image()
	for _, name := range []string{"a", "b", "c"} {
		first, _ := s.Get(1, name)
		second, _ := s.Get(1, name)
		kept := bytes.Clone(second)
		scratch(first, 99)
		if !bytes.Equal(second, kept) {
			t.Errorf("R3: two answers of Get(1, %q) share their memory", name)
		}
		scratch(second, 98)
	}
	first, _ := s.List(1)
	second, _ := s.List(1)
	scratch(first, api.SaveInfo{Name: "other", Version: 9, Size: 9})
	if len(second) != 3 || second[0].Name != "a" || second[2].Name != "c" {
		t.Error("R3: two answers of List share their memory")
	}
	scratch(second, api.SaveInfo{})
	same(t, "R3: what was told was written into", was, tells(s))
	if !bytes.Equal(b.Image(), image) {
		t.Error("R3: what was told is the store's")
	}
}

// To look changes nothing, neither saves nor store, be it refused or not; it needs no write.
func TestV3LooksChangeNothing(t *testing.T) {
	b, s, m := ahead(t, 196, 9)
	if e := b.Write(195, text(size, 1)); e != api.OK { // behind the eighth area
		t.Fatal(e)
	}
	b.Limit(0)
	image, safe := b.Image(), b.Crash(nil)
	for range 2 {
		same(t, "R4: a look", tells(s), tells(m))
		for _, tenant := range append(far, 1, 2, 8) {
			s.List(tenant)
			s.Used(tenant)
			s.Get(tenant, "a")
			s.Get(tenant, "none")
			s.Get(tenant, "NONE")
		}
		if !bytes.Equal(b.Image(), image) || !bytes.Equal(b.Crash(nil), safe) || b.Pending() != 1 {
			t.Error("R4: a look has changed the store")
		}
	}
}

// Dead saves tell nothing of what they have; nor does a new limit make them live.
func TestV3Dead(t *testing.T) {
	for _, d := range []deed{{tenant: 2, name: "a", data: text(9, 1)}, {tenant: 1, name: "a", drop: true}} {
		b, s, _ := ahead(t, 196, 5)
		b.Limit(0)
		if e := d.do(s); e != api.ErrSaveDead {
			t.Errorf("V2: %v behind a limit of 0 = %d", d, e)
		}
		dead(t, b, s)
	}
}
