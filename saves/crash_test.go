package saves_test

import (
	"bytes"
	"fmt"
	"slices"
	"testing"

	"arcade/api"
	"arcade/block"
	"arcade/saves"
)

// picksOf are picks for so many writes: each drawn by lot, or all of them the same.
func picksOf(l *lot, many int) []int {
	edges := []int{0, 1, 2, 20, 24, 28, 32, 34, 300, 509, 510, 511, 512, 513, 514, 515, 1003, 1023, 1024, 1025, -1, -2, -513, -514, -515}
	if l.Intn(3) == 0 {
		return slices.Repeat([]int{edges[l.Intn(len(edges))]}, many)
	}
	var picks []int
	for range many {
		pick := edges[l.Intn(len(edges))]
		if l.Intn(3) == 0 {
			pick = int(l.Uint64())
		}
		picks = append(picks, pick)
	}
	return picks
}

// again is the store that a crash has left of another one.
func again(t *testing.T, b *block.Store, picks []int) *block.Store {
	t.Helper()
	return of(t, b.Crash(picks))
}

// either tells which of two models some saves are as: 0 or 1; it fails, if they are as neither.
func either(t *testing.T, which string, s *saves.Saves, models ...*model) int {
	t.Helper()
	got := tells(s)
	for i, m := range models {
		if slices.Equal(got, tells(m)) {
			return i
		}
	}
	same(t, "V5: "+which, got, tells(models[0]))
	return 0
}

// In the midst of each Put and Delete, at each of its writes: the save is as before or as put, there or deleted, and as the write that was the last one says; all others are as they were, and the store goes on.
func TestV5EachWrite(t *testing.T) {
	l := lotOf(5, 1500)
	for i, d := range deeds() {
		_, _, before := ahead(t, 196, i)
		after := before.copied()
		steps, _ := d.steps(after)
		turns := writes(steps) // behind so many writes it is as after
		if _, there := before.tenants[d.tenant][d.name]; there && !d.drop {
			turns--
		}
		for limit := range writes(steps) {
			b, s, _ := ahead(t, 196, i)
			b.Limit(limit)
			if e := d.do(s); e != api.ErrSaveDead {
				t.Fatalf("V2: %v behind a limit of %d = %d", d, limit, e)
			}
			for range 12 {
				picks := picksOf(l, b.Pending())
				c := again(t, b, picks)
				r := open(t, c)
				which := fmt.Sprintf("%v behind %d writes, picks %v", d, limit, picks)
				is := either(t, which, r, before, after)
				if is == 1 != (limit >= turns) {
					t.Errorf("V5: %s: is it as after? %d", which, is)
				}
				goesOn(t, which, c, r)
			}
		}
	}
}

// The machine may stop behind a write, too, that was not synced yet: then the picks alone tell whether it is as before or as after.
func TestV5UnsyncedWrites(t *testing.T) {
	l := lotOf(55, 1500)
	seen := [2]int{}
	for i, d := range deeds() {
		_, _, before := ahead(t, 196, i)
		after := before.copied()
		steps, _ := d.steps(after)
		for limit := range writes(steps) + 1 {
			b := of(t, before.image)
			stepped(t, b, steps, limit)
			for range 15 {
				picks := picksOf(l, b.Pending())
				c := again(t, b, picks)
				r := open(t, c)
				which := fmt.Sprintf("%v behind %d writes, the last not synced, picks %v", d, limit, picks)
				seen[either(t, which, r, before, after)]++
				goesOn(t, which, c, r)
			}
		}
	}
	if seen[0] < 100 || seen[1] < 100 {
		t.Errorf("as before %d times, as after %d times", seen[0], seen[1])
	}
}

// stepped does steps on a store until so many writes are done; no Sync behind the last one of them.
func stepped(t *testing.T, b *block.Store, steps []step, limit int) {
	t.Helper()
	for _, s := range steps {
		switch {
		case limit == 0:
			return
		case s.bytes == nil:
			b.Sync()
		default:
			limit--
			if e := b.Write(s.sector, s.bytes); e != api.OK {
				t.Fatalf("block.Write(%d) = %d", s.sector, e)
			}
		}
	}
}

// goesOn holds that saves behind a crash do all that others do, and stand on the store as they are told.
func goesOn(t *testing.T, which string, b *block.Store, s *saves.Saves) {
	t.Helper()
	if b.Pending() != 0 {
		t.Errorf("11.3: %s: %d writes are pending behind an Open", which, b.Pending())
	}
	was := tells(s)
	same(t, "V5: opened twice, "+which, was, tells(open(t, of(t, b.Image()))))
	put(t, s, 6, "more", text(1300, 1))
	put(t, s, 6, "more", text(1400, 2))
	get(t, s, 6, "more", text(1400, 2))
	drop(t, s, 6, "more")
	same(t, "V5: goes on, "+which, was, tells(s))
}

// In the midst of an Open, once and again, at each of its writes: in the end it is as opened once.
func TestV5CrashesWhileOpened(t *testing.T) {
	l := lotOf(56, 1500)
	image, steps, m := several()
	for limit := range writes(steps) {
		for range 60 {
			b := of(t, image)
			b.Limit(limit)
			var picks [][]int
			for range 1 + l.Intn(3) {
				saves.Open(b)
				picks = append(picks, picksOf(l, b.Pending()))
				b = again(t, b, picks[len(picks)-1])
				b.Limit(l.Intn(4))
			}
			b.Limit(100)
			s := open(t, b)
			same(t, fmt.Sprintf("V5: a limit of %d, picks %v", limit, picks), tells(s), tells(m))
		}
	}
}

func TestV5OpenedTwice(t *testing.T) {
	image, _, m := several()
	b := of(t, image)
	open(t, b)
	now := b.Image()
	b.Limit(0)
	same(t, "V5: opened twice", tells(open(t, b)), tells(m))
	if !bytes.Equal(b.Image(), now) {
		t.Error("V5: a second Open has written")
	}
}

// Example 6 of the whole: the bytes of a battery are there still, these, or the next ones.
func TestV5Battery(t *testing.T) {
	first, next := text(8192, 1), text(32768, 2)
	for limit := range 70 {
		b, s := fresh(t, 1600)
		put(t, s, 1, "game", first)
		b.Limit(limit)
		e := s.Put(1, "game", next)
		want := first
		if limit >= 65+2 {
			want = next
		}
		if (e == api.OK) != (limit >= 65+3) {
			t.Errorf("V2: Put behind a limit of %d = %d", limit, e)
		}
		for _, pick := range []int{0, 1, 256, 512, 514, 1025} {
			get(t, open(t, again(t, b, slices.Repeat([]int{pick}, b.Pending()))), 1, "game", want)
		}
	}
}

// Long runs of deeds with crashes between them, in the midst of deeds and of Opens: what is there is always what a model says that goes on as the saves were found.
func TestV5ByLot(t *testing.T) {
	seen := map[string]int{}
	for seed := range int64(30) {
		l := lotOf(500+seed, 1500)
		b := made(t, []int{64, 79, 136, 196, 400}[seed%5])
		s, m := open(t, b), modelOf(b.Image())
		for step := range 150 {
			d := l.deed([]int{1, 2, 2, 8}[l.Intn(4)])
			limited := l.Intn(3) == 0
			if limited {
				b.Limit(l.Intn(8))
			}
			next := m.copied()
			_, want := d.steps(next)
			e := d.do(s)
			seen[fmt.Sprint(d.drop, " ", e)]++
			switch {
			case e == api.ErrSaveDead && limited && want == api.OK:
				b, s = recovered(t, l, b)
				which := fmt.Sprintf("seed %d, step %d, %v", seed, step, d)
				m = []*model{m, next}[either(t, which, s, m, next)]
			case e != want:
				t.Fatalf("V5: seed %d, step %d: %v = %d, want %d", seed, step, d, e, want)
			default:
				m = next
				b.Limit(1000)
			}
		}
		same(t, "V5: in the end", tells(s), tells(m))
	}
	for _, kind := range []string{"false 0", "false 112", "false 114", "true 0", "true 111", "true 114"} {
		if seen[kind] < 20 {
			t.Errorf("the lot has drawn %s only %d times", kind, seen[kind])
		}
	}
}

// recovered is what is left behind a crash, and perhaps others while it is opened.
func recovered(t *testing.T, l *lot, b *block.Store) (*block.Store, *saves.Saves) {
	t.Helper()
	b = again(t, b, picksOf(l, b.Pending()))
	for range l.Intn(3) {
		b.Limit(l.Intn(2))
		if s, e := saves.Open(b); (s == nil) != (e == api.ErrSaveDead) || s != nil && e != api.OK {
			t.Fatalf("V5: Open behind a crash = %v, %d", s != nil, e)
		}
		b = again(t, b, picksOf(l, b.Pending()))
	}
	return b, open(t, b)
}

// Dead saves, whose store is opened anew without a crash: what was refused may be done again.
func TestV5OpenedAnewWithoutACrash(t *testing.T) {
	for i, d := range deeds() {
		for limit := range 12 {
			b, s, m := ahead(t, 196, i)
			b.Limit(limit)
			if d.do(s) == api.OK {
				break
			}
			b.Limit(1000)
			s = open(t, b)
			after := m.copied()
			d.steps(after)
			if either(t, d.String(), s, m, after) == 0 {
				if e := d.do(s); e != api.OK {
					t.Errorf("V5: %v once more = %d", d, e)
				}
				same(t, "V5: once more", tells(s), tells(after))
			}
			same(t, "V5: behind a crash", tells(s), tells(open(t, again(t, b, nil))))
		}
	}
}
