package debug_test

import (
	"slices"
	"testing"

	"arcade/api"
)

// Points by their numbers, each field as it should be.
func TestQ6Points(t *testing.T) {
	t.Parallel()
	d, _ := game(t, counting)
	is(t, "points at the start", len(d.Points()), 0)
	quiet(t, d, "poke $c000 $9c")
	for _, line := range []string{"break $153 a = 5", "watch $c000", "break 65535", "watch $0", "break 5 ime < 1", "break 6 HL > 1", "break 6 hl ! $fFfF"} {
		d.Do(line)
	}
	want := []api.Point{
		{Number: 1, Addr: 0x153, Reg: "a", Sign: "=", N: 5},
		{Number: 2, Addr: 0xc000, Watch: true, Value: 0x9c},
		{Number: 3, Addr: 0xffff},
		{Number: 4, Watch: true},
		{Number: 5, Addr: 5, Reg: "ime", Sign: "<", N: 1},
		{Number: 6, Addr: 6, Reg: "hl", Sign: "!", N: 0xffff},
	}
	if got := d.Points(); !slices.Equal(got, want) {
		t.Errorf("Q6: Points() = %v, want %v", got, want)
	}
	quiet(t, d, "delete 3", "delete 1")
	says(t, d, "watch 7", "point 1\n")
	want = []api.Point{{Number: 1, Addr: 7, Watch: true}, want[1], want[3], want[4], want[5]}
	if got := d.Points(); !slices.Equal(got, want) {
		t.Errorf("Q6: Points() = %v, want %v", got, want)
	}
	says(t, d, "break 8", "point 3\n")
	for _, line := range []string{"break 1", "watch 1"} { // what stood at a number that is free again leaves nothing behind
		quiet(t, d, "delete 2", "delete 5")
		does(t, d, line)
		does(t, d, line)
		for _, i := range []int{1, 4} {
			got := d.Points()[i]
			is(t, "the rest of "+line, api.Point{Reg: got.Reg, Sign: got.Sign, N: got.N, Value: got.Value}, api.Point{})
		}
	}
}

// A list that comes out is the caller's, its room too.
func TestQ6Lists(t *testing.T) {
	t.Parallel()
	d, _ := game(t, counting)
	for range 5 {
		does(t, d, "watch $ff04")
	}
	a, b := d.Points(), d.Points()
	for i := range a[:cap(a)] {
		a[:cap(a)][i] = api.Point{Number: 99, Addr: 99, Reg: "x"}
	}
	does(t, d, "step 500")
	is(t, "what was told stays", b[4].Value, 0xab)
	for i, p := range d.Points() {
		is(t, "a number", p.Number, i+1)
		is(t, "an address", p.Addr, 0xff04)
		is(t, "a register", p.Reg, "")
	}
}

// Cycles tells what cycles tells, and neither changes anything.
func TestQ6Cycles(t *testing.T) {
	t.Parallel()
	d, b := game(t, counting)
	is(t, "Cycles", d.Cycles(), 0)
	goes(t, d, "step 7", "done", 13)
	was := allOf(d, b)
	for range 3 {
		is(t, "Cycles", d.Cycles(), 13)
		says(t, d, "cycles", "13\n")
		d.Points()
		for _, line := range []string{"regs", "mem 0 256", "list 0 64", "points", "sum", "sent"} {
			does(t, d, line)
		}
	}
	is(t, "nothing is changed", allOf(d, b) == was, true)
	goes(t, d, "back 7", "done", 0)
}
