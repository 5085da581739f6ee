package saves_test

import (
	"bytes"
	"fmt"
	"math"
	"slices"
	"strings"
	"testing"

	"arcade/api"
	"arcade/block"
	"arcade/saves"
)

const size = api.SectorSize

// far are numbers that are no tenant's, and of which products may run over.
var far = []int{math.MinInt, math.MinInt + 1, math.MinInt32, -8, -2, -1, 0, 9, 10, 16, 255, 256, 257, 264, 1 << 32, 1<<32 + 1, math.MaxInt32, math.MaxInt - 1, math.MaxInt}

// wrongNames are names that may not be.
var wrongNames = []string{"", "A", "Z", "a b", " a", "a ", "a\x00", "\x00", "a/b", "a.b", "a`", "a{", "a:", "@", "aé", "\xff", "a\n", "seventeen_letters", strings.Repeat("a", 17), strings.Repeat("a", 255), strings.Repeat("a", 257), strings.Repeat("a", 272)}

// made is a store of so many sectors, all 0.
func made(t *testing.T, sectors int) *block.Store {
	t.Helper()
	b, e := block.New(sectors)
	if e != api.OK {
		t.Fatalf("block.New(%d) = %d", sectors, e)
	}
	return b
}

// of is a store of these bytes.
func of(t *testing.T, image []byte) *block.Store {
	t.Helper()
	b, e := block.Of(image)
	if e != api.OK {
		t.Fatalf("block.Of %d bytes = %d", len(image), e)
	}
	return b
}

func open(t *testing.T, b *block.Store) *saves.Saves {
	t.Helper()
	s, e := saves.Open(b)
	if s == nil || e != api.OK {
		t.Fatalf("V1: Open = %v, %d", s != nil, e)
	}
	return s
}

// fresh is saves on a store of so many sectors, on which nothing stands.
func fresh(t *testing.T, sectors int) (*block.Store, *saves.Saves) {
	t.Helper()
	b := made(t, sectors)
	return b, open(t, b)
}

// notOpened is a store that is refused, and stays as it is.
func notOpened(t *testing.T, which string, image []byte, want api.Errno) {
	t.Helper()
	b := of(t, image)
	if s, e := saves.Open(b); s != nil || e != want {
		t.Errorf("V1: Open, %s = %v, %d, want %d", which, s != nil, e, want)
	}
	if !bytes.Equal(b.Image(), image) || b.Pending() != 0 {
		t.Errorf("V1: Open, %s: something was written", which)
	}
}

func put(t *testing.T, s *saves.Saves, tenant int, name string, data []byte) {
	t.Helper()
	if e := s.Put(tenant, name, data); e != api.OK {
		t.Fatalf("V2: Put(%d, %q, %d bytes) = %d", tenant, name, len(data), e)
	}
}

// notPut is a Put that is refused ahead of its first write.
func notPut(t *testing.T, b *block.Store, s *saves.Saves, tenant int, name string, data []byte, want api.Errno) {
	t.Helper()
	image, pending := b.Image(), b.Pending()
	if e := s.Put(tenant, name, data); e != want {
		t.Errorf("V2: Put(%d, %q, %d bytes) = %d, want %d", tenant, name, len(data), e, want)
	}
	if !bytes.Equal(b.Image(), image) || b.Pending() != pending {
		t.Errorf("V2: Put(%d, %q, %d bytes) is refused, but has written", tenant, name, len(data))
	}
}

func drop(t *testing.T, s *saves.Saves, tenant int, name string) {
	t.Helper()
	if e := s.Delete(tenant, name); e != api.OK {
		t.Fatalf("V2: Delete(%d, %q) = %d", tenant, name, e)
	}
}

func notDropped(t *testing.T, b *block.Store, s *saves.Saves, tenant int, name string, want api.Errno) {
	t.Helper()
	image, pending := b.Image(), b.Pending()
	if e := s.Delete(tenant, name); e != want {
		t.Errorf("V2: Delete(%d, %q) = %d, want %d", tenant, name, e, want)
	}
	if !bytes.Equal(b.Image(), image) || b.Pending() != pending {
		t.Errorf("V2: Delete(%d, %q) is refused, but has written", tenant, name)
	}
}

func get(t *testing.T, s *saves.Saves, tenant int, name string, want []byte) {
	t.Helper()
	if b, e := s.Get(tenant, name); !bytes.Equal(b, want) || e != api.OK {
		t.Errorf("V3: Get(%d, %q) = %d bytes, %d, want %d bytes", tenant, name, len(b), e, len(want))
	}
}

func notGot(t *testing.T, s *saves.Saves, tenant int, name string, want api.Errno) {
	t.Helper()
	if b, e := s.Get(tenant, name); len(b) != 0 || e != want {
		t.Errorf("V3: Get(%d, %q) = %d bytes, %d, want %d", tenant, name, len(b), e, want)
	}
}

func list(t *testing.T, s *saves.Saves, tenant int, want ...api.SaveInfo) {
	t.Helper()
	if l, e := s.List(tenant); !slices.Equal(l, want) || e != api.OK {
		t.Errorf("V3: List(%d) = %v, %d, want %v", tenant, l, e, want)
	}
}

func notListed(t *testing.T, s *saves.Saves, tenant int, want api.Errno) {
	t.Helper()
	if l, e := s.List(tenant); len(l) != 0 || e != want {
		t.Errorf("V3: List(%d) = %v, %d, want %d", tenant, l, e, want)
	}
}

func used(t *testing.T, s *saves.Saves, tenant, want int) {
	t.Helper()
	if n, e := s.Used(tenant); n != want || e != api.OK {
		t.Errorf("V3: Used(%d) = %d, %d, want %d", tenant, n, e, want)
	}
}

func notUsed(t *testing.T, s *saves.Saves, tenant int, want api.Errno) {
	t.Helper()
	if n, e := s.Used(tenant); n != 0 || e != want {
		t.Errorf("V3: Used(%d) = %d, %d, want %d", tenant, n, e, want)
	}
}

// dead holds that each call is refused, and writes nothing, limit or not; arguments that may not be are told ahead of that.
func dead(t *testing.T, b *block.Store, s *saves.Saves) {
	t.Helper()
	for _, limit := range []int{0, 1000} {
		b.Limit(limit)
		for tenant := 1; tenant <= 8; tenant++ {
			for _, name := range []string{"a", "none"} {
				notPut(t, b, s, tenant, name, make([]byte, 131072*(tenant%2)), api.ErrSaveDead)
				notDropped(t, b, s, tenant, name, api.ErrSaveDead)
				notGot(t, s, tenant, name, api.ErrSaveDead)
			}
			notListed(t, s, tenant, api.ErrSaveDead)
			notUsed(t, s, tenant, api.ErrSaveDead)
		}
		wrongArgs(t, b, s)
	}
}

// wrongArgs holds that arguments that may not be are refused.
func wrongArgs(t *testing.T, b *block.Store, s *saves.Saves) {
	t.Helper()
	for _, tenant := range far {
		notPut(t, b, s, tenant, "a", nil, api.ErrArg)
		notDropped(t, b, s, tenant, "a", api.ErrArg)
		notGot(t, s, tenant, "a", api.ErrArg)
		notListed(t, s, tenant, api.ErrArg)
		notUsed(t, s, tenant, api.ErrArg)
	}
	for _, name := range wrongNames {
		notPut(t, b, s, 1, name, []byte{1}, api.ErrArg)
		notDropped(t, b, s, 1, name, api.ErrArg)
		notGot(t, s, 1, name, api.ErrArg)
	}
	notPut(t, b, s, 1, "a", make([]byte, 131073), api.ErrArg)
	notPut(t, b, s, 8, "none", make([]byte, 262144), api.ErrArg)
}

// text is n bytes of which none is 0, and of which no two sectors are alike.
func text(n, from int) []byte {
	b := make([]byte, n)
	for i := range b {
		b[i] = byte((i%241+7*(i/510)+13*from)%255 + 1)
	}
	return b
}

// roomy is a list with spare room, all of it filled.
func roomy[T any](list []T, filling T) []T {
	return append(slices.Clone(list), slices.Repeat([]T{filling}, 2*size)...)[:len(list)]
}

// spared tells whether a roomy list is as it was, its room too.
func spared[T comparable](list, was []T, filling T) bool {
	return slices.Equal(list, was) && slices.Equal(list[len(list):len(list)+2*size], slices.Repeat([]T{filling}, 2*size))
}

// scratch writes over a list and its spare room, and makes it longer.
func scratch[T any](list []T, x T) {
	whole := list[:cap(list)]
	for i := range whole {
		whole[i] = x
	}
	_ = append(list, slices.Repeat([]T{x}, 2*size)...)
}

// teller is what both saves and their model tell.
type teller interface {
	Get(tenant int, name string) ([]byte, api.Errno)
	List(tenant int) ([]api.SaveInfo, api.Errno)
	Used(tenant int) (int, api.Errno)
}

// tells is all that some saves tell, line by line.
func tells(s teller) []string {
	var lines []string
	for tenant := 1; tenant <= 8; tenant++ {
		lines = append(lines, tellsOf(s, tenant)...)
	}
	return lines
}

func tellsOf(s teller, tenant int) []string {
	n, e := s.Used(tenant)
	infos, f := s.List(tenant)
	lines := []string{fmt.Sprintf("%d: used %d, %d; listed %d, %d", tenant, n, e, len(infos), f)}
	for _, i := range infos {
		data, e := s.Get(tenant, i.Name)
		lines = append(lines, fmt.Sprintf("%d: %s, version %d, size %d, error %d: %x", tenant, i.Name, i.Version, i.Size, e, data))
	}
	return lines
}

// same holds against each other what was told at two times, or by two.
func same(t *testing.T, which string, a, b []string) {
	t.Helper()
	for i := range max(len(a), len(b)) {
		x, y := "nothing", "nothing"
		if i < len(a) {
			x = a[i]
		}
		if i < len(b) {
			y = b[i]
		}
		if x != y {
			t.Fatalf("%s: %.120s, and %.120s", which, x, y)
		}
	}
}
