package debug

import (
	"slices"

	"arcade/api"
)

// place is one through which the machine went: behind how many instructions since the last change, and what makes the machine so again.
type place struct {
	done int
	find func()
}

// placeEvery: ahead of so many instructions a place is kept. From there on they are done again, so it is seldom enough for keeping to cost little, and often enough for going back to.
const placeEvery = 2048

// here is what makes the machine as it is now.
func (d *Debugger) here() func() {
	state, cycles := d.board.State(), d.cycles
	return func() {
		d.board.Load(state) // it told it, so it takes it
		d.cycles = cycles
	}
}

// keepPlace keeps where the machine is, if a place is due. The further back, the fewer places are left: with many behind it a run would take more and more memory.
func (d *Debugger) keepPlace() {
	if d.done%placeEvery != 0 {
		return
	}
	d.places = append(d.places, place{d.done, d.here()})
	d.places = slices.DeleteFunc(d.places, func(p place) bool {
		return isSpare(p.done/placeEvery, d.done/placeEvery)
	})
}

// isSpare tells whether the place with a number is given up when there is a last one: a multiple of 2 to the n stays for 2 to the n + 1 places, the first one for ever. So to go back from the last one a place is left that is not even four times as far.
func isSpare(number, last int) bool {
	weight := number & -number
	return number != 0 && last-number >= 2*weight
}

// forget has nobody go back behind now.
func (d *Debugger) forget() {
	d.done, d.places = 0, nil
}

// back goes back in time.
func (d *Debugger) back(r *reader) (string, error) {
	many := r.number(1, api.MaxStep)
	if err := r.end(); err != nil {
		return "", err
	}
	if many > d.done {
		return "", fault{api.ErrDebugBack, "not so far back"}
	}
	d.goTo(d.done - many)
	return d.stopped("done"), nil
}

// goTo makes the machine as it was behind so many instructions: from the last place ahead they are done again.
func (d *Debugger) goTo(done int) {
	last := len(d.places) - 1
	for d.places[last].done > done {
		last--
	}
	from := d.places[last]
	from.find()
	d.done = from.done
	d.places = slices.Delete(d.places, last, len(d.places)) // the next instruction keeps this one anew
	for d.done < done {
		d.instruction()
	}
	d.here()() // what was sent on the way is not sent yet
	d.know()
}

// mark keeps the machine.
func (d *Debugger) mark(r *reader) (string, error) {
	k := r.number(0, api.MaxMarks-1)
	if err := r.end(); err != nil {
		return "", err
	}
	d.marks[k] = d.here()
	return "", nil
}

// returnTo makes the machine as it was kept.
func (d *Debugger) returnTo(r *reader) (string, error) {
	k := r.number(0, api.MaxMarks-1)
	if err := r.end(); err != nil {
		return "", err
	}
	if d.marks[k] == nil {
		return "", fault{api.ErrDebugPoint, "nothing is kept"}
	}
	d.marks[k]()
	d.know()
	d.forget()
	return "", nil
}
