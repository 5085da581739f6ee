package debug

import (
	"strconv"
	"strings"

	"arcade/api"
)

// signs are those of conditions: the same, below, above, another.
const signs = "=<>!"

// addBreak makes a break, perhaps with a condition.
func (d *Debugger) addBreak(r *reader) (string, error) {
	p := api.Point{Addr: r.address()}
	if r.more() {
		g := r.register()
		p.Reg, p.Sign, p.N = g.name, r.sign(), r.number(0, g.most)
	}
	if err := r.end(); err != nil {
		return "", err
	}
	return d.add(p)
}

// addWatch makes a watch.
func (d *Debugger) addWatch(r *reader) (string, error) {
	at := r.address()
	if err := r.end(); err != nil {
		return "", err
	}
	return d.add(api.Point{Addr: at, Watch: true, Value: d.board.Peek(at)})
}

// add gives a point the least number that is free.
func (d *Debugger) add(p api.Point) (string, error) {
	for i := range d.points {
		if d.points[i].Number == 0 {
			p.Number = i + 1
			d.points[i] = p
			return pointText(p.Number) + "\n", nil
		}
	}
	return "", fault{api.ErrDebugPoint, "too many points"}
}

// deletePoint takes one away.
func (d *Debugger) deletePoint(r *reader) (string, error) {
	number := r.number(1, api.MaxPoints)
	if err := r.end(); err != nil {
		return "", err
	}
	p := &d.points[number-1]
	if p.Number == 0 {
		return "", fault{api.ErrDebugPoint, "no such point"}
	}
	*p = api.Point{}
	return "", nil
}

// listPoints shows them.
func (d *Debugger) listPoints(r *reader) (string, error) {
	if err := r.end(); err != nil {
		return "", err
	}
	var text strings.Builder
	for _, p := range d.Points() {
		text.WriteString(strconv.Itoa(p.Number) + " " + described(p) + "\n")
	}
	return text.String(), nil
}

func pointText(number int) string {
	return "point " + strconv.Itoa(number)
}

// described is what a point is, without its number.
func described(p api.Point) string {
	if p.Watch {
		return "watch " + wordText(p.Addr) + " " + byteText(p.Value)
	}
	text := "break " + wordText(p.Addr)
	if g, is := registerOf(p.Reg); is {
		text += " " + p.Reg + " " + p.Sign + " " + g.written(p.N)
	}
	return text
}

// hit is the least number of the points that are hit behind an instruction; 0, if none is. Every watch learns its byte.
func (d *Debugger) hit(regs api.Regs) int {
	least := 0
	for i := range d.points {
		p := &d.points[i]
		if p.Number != 0 && d.isHit(p, regs) && least == 0 {
			least = p.Number
		}
	}
	return least
}

func (d *Debugger) isHit(p *api.Point, regs api.Regs) bool {
	if !p.Watch {
		return p.Addr == regs.PC && holds(p, regs)
	}
	known := p.Value
	p.Value = d.board.Peek(p.Addr)
	return p.Value != known
}

// holds tells whether a break's condition holds, or there is none.
func holds(p *api.Point, regs api.Regs) bool {
	g, is := registerOf(p.Reg)
	if !is {
		return true
	}
	n := g.value(regs)
	switch p.Sign {
	case "=":
		return n == p.N
	case "<":
		return n < p.N
	case ">":
		return n > p.N
	}
	return n != p.N
}

// know has each watch know its byte as it is now.
func (d *Debugger) know() {
	for i := range d.points {
		if p := &d.points[i]; p.Watch {
			p.Value = d.board.Peek(p.Addr)
		}
	}
}
