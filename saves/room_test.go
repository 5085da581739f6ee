package saves_test

import (
	"testing"

	"arcade/api"
)

// A save alone in its area is put as often as one likes, if twice its data sectors and two heads are there.
func TestV6AsOftenAsOneLikes(t *testing.T) {
	for _, sectors := range []int{72, 79, 80, 128, 136, 196, 400} {
		a := sectors / 8
		half := (a - heads(a)) / 2
		for _, n := range []int{0, 1, 510, 510*half - 509, 510 * half} {
			_, s := fresh(t, sectors)
			for i := range 60 {
				put(t, s, 5, "one", text(n, i))
				get(t, s, 5, "one", text(n, i))
				used(t, s, 5, 1+many(n))
			}
			list(t, s, 5, api.SaveInfo{Name: "one", Version: 60, Size: n})
		}
	}
}

// The greatest save, whose area has no room for it twice: it is put once, and then anew behind a Delete.
func TestV6TheGreatest(t *testing.T) {
	b, s := fresh(t, 4096)
	for i := range 3 {
		put(t, s, 8, "great", text(131072, i))
		used(t, s, 8, 259)
		notPut(t, b, s, 8, "great", text(131072, i+1), api.ErrSaveFull)
		notPut(t, b, s, 8, "great", text(510*190+1, i+1), api.ErrSaveFull)
		put(t, s, 8, "great", text(510*190, i+1))
		drop(t, s, 8, "great")
		used(t, s, 8, 0)
	}
}

// What was deleted, replaced or refused leaves all its room: with a free head and just as many free data sectors a Put is not refused, wherever they lie.
func TestV6NothingIsLost(t *testing.T) {
	refused, done := 0, 0
	for seed := range int64(20) {
		l := lotOf(600+seed, 2500)
		_, s := fresh(t, 196)
		for range 100 {
			d := l.deed(2)
			sum, _ := s.Used(2)
			infos, _ := s.List(2)
			free := 21 - (sum - len(infos))
			room := len(infos) < 3 && many(len(d.data)) <= free
			e := d.do(s)
			switch {
			case d.drop:
			case room && e != api.OK, !room && e != api.ErrSaveFull:
				t.Fatalf("V6: %v with %d heads and %d data sectors free = %d", d, 3-len(infos), free, e)
			case room:
				done++
			default:
				refused++
			}
		}
		for _, name := range []string{"a", "b", "c-9", "_", "sixteen-letters_"} {
			s.Delete(2, name)
		}
		used(t, s, 2, 0)
		put(t, s, 2, "all", text(510*21, 1))
	}
	if done < 200 || refused < 200 {
		t.Errorf("%d were put, %d were refused", done, refused)
	}
}

// A Put that a crash has cut short leaves no sector behind that is taken.
func TestV6CrashesLeaveNoLoss(t *testing.T) {
	b, s := fresh(t, 196)
	put(t, s, 2, "a", text(510*10, 1))
	for limit := range 13 {
		b.Limit(limit)
		if e := s.Put(2, "a", text(510*11, limit)); e != api.ErrSaveDead {
			t.Errorf("V2: Put behind a limit of %d = %d", limit, e)
		}
		b = again(t, b, []int{512, 512, 512, 512, 512, 512, 512, 512, 512, 512, 512, 512})
		s = open(t, b)
		used(t, s, 2, 11)
	}
	put(t, s, 2, "a", text(510*11, 99))
	get(t, s, 2, "a", text(510*11, 99))
}
