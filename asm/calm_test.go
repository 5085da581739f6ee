package asm_test

import (
	"bytes"
	"math"
	"math/rand"
	"slices"
	"strings"
	"testing"

	"arcade/api"
	"arcade/asm"
)

func TestP21ListsStay(t *testing.T) {
	room := []byte{62, 5, 16, 0, 203, 0x7e, 0xc3, 1, 2, 99, 98, 97}
	kept := slices.Clone(room)
	code := room[:9]
	for at := range code {
		asm.Disasm(code, at, 300)
	}
	asm.Listing(code, 300)
	if !bytes.Equal(room, kept) {
		t.Errorf("P2.1: a list of bytes, or its spare room, was written into: % x", room)
	}
	names := []api.Name{{Name: "x", Value: 1}, {Name: "b1", Value: 2}, {Name: "x", Value: 3}, {Name: "spare", Value: 4}}
	keptNames := slices.Clone(names)
	asm.Eval("x+b1", names[:3], 0)
	if v, at, e := asm.Eval("spare", names[:3], 0); v != 0 || at != 0 || e != api.ErrAsmName {
		t.Errorf("P2.1: a name of the spare room is known: %d, %d, %d", v, at, e)
	}
	if !slices.Equal(names, keptNames) {
		t.Errorf("P2.1: a list of names was written into: %v", names)
	}
}

func TestP21ListsAreNew(t *testing.T) {
	source := "x: db 1, 2, 3\n.y: db \"abc\"\nz1 equ 5"
	first := mustAssemble(t, source)
	kept := slices.Clone(first.Code)
	second := mustAssemble(t, source)
	for i := range first.Code[:cap(first.Code)] {
		first.Code[:cap(first.Code)][i] = 77
	}
	if third := mustAssemble(t, source); !bytes.Equal(second.Code, kept) || !bytes.Equal(third.Code, kept) {
		t.Errorf("P2.1: an image shares memory with another one: % x, % x", second.Code, third.Code)
	}
	names, _, _ := asm.Names(source)
	others, _, _ := asm.Names(source)
	for i := range names[:cap(names)] {
		names[:cap(names)][i] = api.Name{}
	}
	if again, _, _ := asm.Names(source); len(others) != 3 || others[1].Name != "x.y" || !slices.Equal(again, others) {
		t.Errorf("P2.1: names share memory with others: %v, %v", others, again)
	}
}

// TestP21NothingKept: a call in which much was wrong has nothing to do with the next one.
func TestP21NothingKept(t *testing.T) {
	source := "x: nop\njr x\n"
	want := mustAssemble(t, source)
	for _, other := range []string{"x: nop\nx:", "nop\norg 0", "y: db zz", "org 500\nnop", strings.Repeat("(", 500)} {
		asm.Assemble(other)
		asm.Names(other)
		asm.Eval(other, []api.Name{{Name: "x", Value: 9}}, 7)
		if got := mustAssemble(t, source); got.Org != want.Org || !bytes.Equal(got.Code, want.Code) {
			t.Errorf("P2.1: behind %q the image is % x at %d", other, got.Code, got.Org)
		}
	}
}

// TestP21AnyText: whatever comes, every call ends, and an error has nothing beside it.
func TestP21AnyText(t *testing.T) {
	t.Parallel()
	r := rand.New(rand.NewSource(9))
	for k := range 1500 {
		text := string(someBytes(r, r.Intn(60)))
		if k%2 == 0 {
			text = strings.Map(func(c rune) rune { return rune(" \t\n\"';:.,$%@()[]+-<>019abxyhl"[int(c)%29]) }, text)
		}
		compareAssemble(t, text)
		v, at, e := asm.Eval(text, evalNames, r.Intn(100))
		if e != api.OK && v != 0 || e == api.OK && at != 0 || at < 0 || at > len(text) {
			t.Fatalf("P2.1: Eval(%q) = %d, %d, %d", text, v, at, e)
		}
		if _, e := asm.Listing([]byte(text), r.Intn(65000)); e != api.OK {
			t.Fatalf("P2.1: Listing(%q): %d", text, e)
		}
	}
	for _, text := range []string{strings.Repeat("(", 16000), strings.Repeat("-", 16000), strings.Repeat("high(", 3200), strings.Repeat("x", 16000), strings.Repeat("db ", 5000), strings.Repeat("\"", 15999), strings.Repeat("'", 16000), strings.Repeat("[", 16000), strings.Repeat("x:", 8000), strings.Repeat(".", 16000), "db " + strings.Repeat("1,", 7000), "db 1" + strings.Repeat("<<1", 5000), "db 1" + strings.Repeat("|1^1&1<<1+1*1", 1000)} {
		compareAssemble(t, text)
	}
	for _, here := range []int{math.MinInt, -1, 0, math.MaxInt} {
		asm.Eval("@+x*-y/0%high(@)", nil, here)
	}
}
