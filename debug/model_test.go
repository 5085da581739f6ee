package debug_test

import (
	"fmt"
	"maps"
	"regexp"
	"slices"
	"strconv"
	"strings"
	"testing"

	"arcade/api"
	"arcade/asm"
	"arcade/board"
)

// desk is what a debugger should be, as plainly as can be: to go back it does everything anew from the last change on.
type desk struct {
	board  *board.Board
	points map[int]api.Point
	marks  map[int]moment
	base   moment // the last change
	ends   []int  // how many cycles went by ahead of each instruction since then, and behind the last one
}

// moment is a machine, as it was at a time.
type moment struct {
	state  string
	cycles int
}

func deskOf(b *board.Board) *desk {
	for !b.Boundary() {
		b.Cycle()
	}
	k := &desk{board: b, points: map[int]api.Point{}, marks: map[int]moment{}, ends: []int{0}}
	k.change()
	return k
}

func (k *desk) cycles() int {
	return k.ends[len(k.ends)-1]
}

func (k *desk) now() moment {
	return moment{string(k.board.State()), k.cycles()}
}

func (k *desk) change() {
	k.base = k.now()
	k.ends = []int{k.cycles()}
}

// load makes the machine as it was.
func (k *desk) load(m moment) {
	if e := k.board.Load([]byte(m.state)); e != api.OK {
		panic(fmt.Sprint("Load = ", e))
	}
}

func (k *desk) know() {
	for n, p := range k.points {
		if p.Watch {
			p.Value = k.board.Peek(p.Addr)
			k.points[n] = p
		}
	}
}

// The kinds of words, and the bounds of numbers, of each command; a line must be as one of the forms.
var forms = map[string][]string{
	"regs": {""}, "set": {"R N"}, "mem": {"A", "A 1-256"}, "poke": {"A 0-255"}, "list": {"", "A", "A 1-64"},
	"break": {"A", "A R S B"}, "watch": {"A"}, "delete": {"1-16"}, "points": {""}, "step": {"", "1-10000"},
	"run": {"1-200000"}, "over": {""}, "out": {""}, "until": {"A"}, "trace": {"1-100"}, "back": {"1-10000"},
	"press": {"0-255"}, "mark": {"0-3"}, "return": {"0-3"}, "sum": {""}, "sent": {""}, "cycles": {""},
}

var (
	aRegister = regexp.MustCompile(`^(a|f|b|c|d|e|h|l|bc|de|hl|sp|pc|ime)$`)
	aSign     = regexp.MustCompile(`^[=<>!]$`)
	aNumber   = regexp.MustCompile(`^(\$[0-9a-fA-F]{1,6}|[0-9]{1,7})$`)
)

func numberIn(word string) int {
	text, base := word, 10
	if word[0] == '$' {
		text, base = word[1:], 16
	}
	n, _ := strconv.ParseInt(text, base, 64)
	return int(n)
}

func topOf(register string) int {
	switch len(register) {
	case 1:
		return 255
	case 2:
		return 65535
	}
	return 1
}

// fits holds words against a form: whether they are of its kinds, and whether the numbers are in their bounds.
func fits(words []string, form string) (kinds, bounds bool) {
	parts := strings.Fields(form)
	if len(parts) != len(words) {
		return false, false
	}
	kinds, bounds = true, true
	for i, part := range parts {
		switch part {
		case "R":
			kinds = kinds && aRegister.MatchString(words[i])
			continue
		case "S":
			kinds = kinds && aSign.MatchString(words[i])
			continue
		}
		if !aNumber.MatchString(words[i]) {
			kinds = false
			continue
		}
		n, least, most := numberIn(words[i]), 0, 65535
		switch part {
		case "A":
		case "N":
			most = topOf(words[0])
			bounds = bounds && (words[0] != "f" || n%16 == 0)
		case "B":
			most = topOf(words[1])
		default:
			fmt.Sscanf(part, "%d-%d", &least, &most)
		}
		bounds = bounds && least <= n && n <= most
	}
	return kinds, bounds
}

// do is a line, and its answer.
func (k *desk) do(line string) (string, api.Errno) {
	words := slices.DeleteFunc(strings.Split(line, " "), func(w string) bool { return w == "" })
	if len(line) > 100 {
		return "", api.ErrDebugText
	}
	if len(words) == 0 {
		return "", api.OK
	}
	kinds, bounds := false, false
	for _, form := range forms[words[0]] {
		if kinds, bounds = fits(words[1:], form); kinds {
			break
		}
	}
	switch {
	case !kinds:
		return "", api.ErrDebugText
	case !bounds:
		return "", api.ErrDebugNumber
	}
	numbers := []int{}
	for _, w := range words[1:] {
		if aNumber.MatchString(w) {
			numbers = append(numbers, numberIn(w))
		}
	}
	return k.command(words, numbers)
}

// at is the number at a place, or what stands for it.
func at(numbers []int, place, standing int) int {
	if place < len(numbers) {
		return numbers[place]
	}
	return standing
}

func (k *desk) command(words []string, n []int) (string, api.Errno) {
	switch words[0] {
	case "regs":
		return k.regs(), api.OK
	case "mem":
		return k.mem(n[0], at(n, 1, 16)), api.OK
	case "list":
		return k.list(at(n, 0, k.board.Regs().PC), at(n, 1, 8)), api.OK
	case "points":
		return k.told(), api.OK
	case "sum":
		return fmt.Sprintf("$%08x\n", crc(k.board.Frame())), api.OK
	case "sent":
		return fmt.Sprintf("% x\n", k.board.Sent()), api.OK
	case "cycles":
		return fmt.Sprintf("%d\n", k.cycles()), api.OK
	case "set", "poke", "press":
		return "", k.changes(words, n)
	case "break", "watch", "delete":
		return k.point(words, n)
	case "mark":
		k.marks[n[0]] = k.now()
		return "", api.OK
	case "return":
		return "", k.returns(n[0])
	case "back":
		return k.back(n[0])
	}
	return k.goOn(words[0], n), api.OK
}

func number(value, top int) string {
	switch top {
	case 255:
		return fmt.Sprintf("$%02x", value)
	case 65535:
		return fmt.Sprintf("$%04x", value)
	}
	return fmt.Sprint(value)
}

// registersOf are the numbers of all registers.
func registersOf(r api.Regs) map[string]int {
	ime := 0
	if r.IME {
		ime = 1
	}
	return map[string]int{
		"a": r.A, "f": r.F, "b": r.B, "c": r.C, "d": r.D, "e": r.E, "h": r.H, "l": r.L,
		"bc": 256*r.B + r.C, "de": 256*r.D + r.E, "hl": 256*r.H + r.L, "sp": r.SP, "pc": r.PC, "ime": ime,
	}
}

func (k *desk) regs() string {
	r := k.board.Regs()
	ime := registersOf(r)["ime"]
	state := []string{"running", "halted", "stopped", "locked"}[r.State]
	return fmt.Sprintf("a=$%02x f=$%02x b=$%02x c=$%02x d=$%02x e=$%02x h=$%02x l=$%02x sp=$%04x pc=$%04x ime=%d state=%s\n", r.A, r.F, r.B, r.C, r.D, r.E, r.H, r.L, r.SP, r.PC, ime, state)
}

func (k *desk) mem(from, many int) string {
	text := ""
	for i := range many {
		if i%16 == 0 {
			text += fmt.Sprintf("\n$%04x:", (from+i)%65536)
		}
		text += fmt.Sprintf(" %02x", k.board.Peek((from+i)%65536))
	}
	return text[1:] + "\n"
}

// text is the instruction at an address, as it is listed, and the address behind it.
func (k *desk) text(from int) (string, int) {
	code := []byte{}
	for i := from; i < from+3 && i < 65536; i++ {
		code = append(code, byte(k.board.Peek(i)))
	}
	ins, e := asm.Disasm(code, 0, from)
	if e != api.OK {
		panic(fmt.Sprint("Disasm = ", e))
	}
	return fmt.Sprintf("$%04x: %s", from, ins.Text), (from + ins.Bytes) % 65536
}

func (k *desk) list(from, many int) string {
	text := ""
	for range many {
		line, next := k.text(from)
		text += line + "\n"
		from = next
	}
	return text
}

func (k *desk) sorted() []api.Point {
	var list []api.Point
	for _, n := range slices.Sorted(maps.Keys(k.points)) {
		list = append(list, k.points[n])
	}
	return list
}

func (k *desk) told() string {
	text := ""
	for _, p := range k.sorted() {
		switch {
		case p.Watch:
			text += fmt.Sprintf("%d watch $%04x $%02x\n", p.Number, p.Addr, p.Value)
		case p.Reg == "":
			text += fmt.Sprintf("%d break $%04x\n", p.Number, p.Addr)
		default:
			text += fmt.Sprintf("%d break $%04x %s %s %s\n", p.Number, p.Addr, p.Reg, p.Sign, number(p.N, topOf(p.Reg)))
		}
	}
	return text
}

// point makes one, or takes it away.
func (k *desk) point(words []string, n []int) (string, api.Errno) {
	if words[0] == "delete" {
		if _, there := k.points[n[0]]; !there {
			return "", api.ErrDebugPoint
		}
		delete(k.points, n[0])
		return "", api.OK
	}
	p := api.Point{Number: 1, Addr: n[0]}
	for k.points[p.Number].Number != 0 {
		p.Number++
	}
	if p.Number > 16 {
		return "", api.ErrDebugPoint
	}
	if words[0] == "watch" {
		p.Watch, p.Value = true, k.board.Peek(p.Addr)
	} else if len(words) > 2 {
		p.Reg, p.Sign, p.N = words[2], words[3], n[1]
	}
	k.points[p.Number] = p
	return fmt.Sprintf("point %d\n", p.Number), api.OK
}

func setIn(r api.Regs, register string, n int) api.Regs {
	high, low := n/256, n%256
	switch register {
	case "a":
		r.A = n
	case "f":
		r.F = n
	case "b":
		r.B = n
	case "c":
		r.C = n
	case "d":
		r.D = n
	case "e":
		r.E = n
	case "h":
		r.H = n
	case "l":
		r.L = n
	case "bc":
		r.B, r.C = high, low
	case "de":
		r.D, r.E = high, low
	case "hl":
		r.H, r.L = high, low
	case "sp":
		r.SP = n
	case "pc":
		r.PC = n
	case "ime":
		r.IME = n != 0
	}
	return r
}

func (k *desk) changes(words []string, n []int) api.Errno {
	var e api.Errno
	switch words[0] {
	case "set":
		e = k.board.SetRegs(setIn(k.board.Regs(), words[1], n[0]))
	case "poke":
		e = k.board.Poke(n[0], n[1])
	default:
		e = k.board.Press(n[0])
	}
	if e == api.OK {
		k.change()
	}
	return e
}

func (k *desk) returns(n int) api.Errno {
	m, there := k.marks[n]
	if !there {
		return api.ErrDebugPoint
	}
	k.load(m)
	k.base, k.ends = m, []int{m.cycles}
	k.know()
	return api.OK
}

func (k *desk) back(n int) (string, api.Errno) {
	if n > len(k.ends)-1 {
		return "", api.ErrDebugBack
	}
	k.ends = k.ends[:len(k.ends)-n]
	k.load(k.base)
	ran(k.board, k.cycles()-k.base.cycles)
	k.load(k.now()) // nothing was sent
	k.know()
	return "done\n" + k.regs(), api.OK
}

// holds tells whether a break's condition holds.
func holds(p api.Point, r api.Regs) bool {
	x := registersOf(r)[p.Reg]
	return p.Reg == "" || p.Sign == "=" && x == p.N || p.Sign == "<" && x < p.N || p.Sign == ">" && x > p.N || p.Sign == "!" && x != p.N
}

// instruction is one; the points that are hit behind it, the least first.
func (k *desk) instruction() []int {
	many := 1
	k.board.Cycle()
	for ; !k.board.Boundary(); many++ {
		k.board.Cycle()
	}
	k.ends = append(k.ends, k.cycles()+many)
	var hit []int
	r := k.board.Regs()
	for n, p := range k.points {
		if p.Watch && k.board.Peek(p.Addr) != p.Value || !p.Watch && r.PC == p.Addr && holds(p, r) {
			hit = append(hit, n)
		}
	}
	k.know()
	slices.Sort(hit)
	return hit
}

func (k *desk) goOn(name string, n []int) string {
	text, begin, first := "", k.cycles(), k.board.Regs()
	line, next := k.text(first.PC)
	calls := strings.Contains(line, ": call") || strings.Contains(line, ": rst")
	for many := 1; ; many++ {
		if name == "trace" {
			line, _ = k.text(k.board.Regs().PC)
		}
		hit := k.instruction()
		now, went := k.board.Regs(), k.cycles()-begin
		if name == "trace" {
			r := registersOf(now)
			text += fmt.Sprintf("%s ; a=$%02x f=$%02x bc=$%04x de=$%04x hl=$%04x sp=$%04x\n", line, r["a"], r["f"], r["bc"], r["de"], r["hl"], r["sp"])
		}
		reached, long := false, went >= 200000
		switch {
		case name == "run":
			reached, long = went >= n[0], false
		case name == "over" && calls:
			reached = now.PC == next && now.SP == first.SP
		case name == "out":
			reached = now.SP > first.SP
		case name == "until":
			reached = now.PC == n[0]
		default:
			reached, long = many == at(n, 0, 1), false
		}
		switch {
		case now.State == 3:
			return text + "locked\n" + k.regs()
		case len(hit) > 0:
			return text + fmt.Sprintf("point %d\n", hit[0]) + k.regs()
		case reached:
			return text + "done\n" + k.regs()
		case long:
			return text + "long\n" + k.regs()
		}
	}
}

// both is a debugger and a desk, on boards that were made alike.
type both struct {
	*desk
	d interface {
		Do(string) (string, api.Errno)
		Cycles() int
		Points() []api.Point
	}
	looked *board.Board // the debugger's
}

func bothOf(t *testing.T, bytes []byte, ahead int) both {
	t.Helper()
	a, b := ran(made(t, bytes), ahead), ran(made(t, bytes), ahead)
	return both{deskOf(a), newOf(t, b), b}
}

// line does a line on both.
func (x both) line(t *testing.T, line string) {
	t.Helper()
	want, e := x.do(line)
	if s, f := x.d.Do(line); s != want || f != e {
		t.Errorf("Do(%q) = %q, %d, want %q, %d", line, s, f, want, e)
	}
	if x.d.Cycles() != x.cycles() {
		t.Errorf("behind %q Cycles() = %d, want %d", line, x.d.Cycles(), x.cycles())
	}
	if got, want := x.d.Points(), x.sorted(); !slices.Equal(got, want) {
		t.Errorf("behind %q Points() = %v, want %v", line, got, want)
	}
	alike(t, fmt.Sprintf("behind %q", line), x.looked, x.board)
	if t.Failed() {
		t.FailNow()
	}
}
