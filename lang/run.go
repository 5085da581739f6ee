package lang

import (
	"errors"
	"strconv"

	"arcade/api"
)

// run is a program that is done: what is left of the input and of the fuel, what was put out, and what its variables are.
type run struct {
	in       []int
	fuel     int
	steps    int
	out      []byte
	globals  [api.MaxGlobal]int
	locals   *frame // of the function that runs
	running  int    // functions
	returned int    // what the return told that was come to last
	bodies   []act  // of the functions, by their numbers
}

// frame is the parameters and variables of a function that runs.
type frame [api.MaxLocals]int

// ending is why a run ends ahead of its program.
type ending struct {
	kind  int
	trap  int
	place int
}

func (e ending) Error() string {
	return "ended by " + strconv.Itoa(e.kind) + ", " + strconv.Itoa(e.trap) + " at " + strconv.Itoa(e.place)
}

func trap(number int, at token) error {
	return ending{kind: api.LangTrap, trap: number, place: at.place}
}

// done does a program that was checked.
func done(p *program, in []int, fuel int) api.LangRun {
	r := &run{in: in, fuel: fuel}
	for _, f := range p.functions {
		r.bodies = append(r.bodies, f.body.act())
	}
	value, err := r.call(p.main, &frame{})
	result := api.LangRun{Kind: api.LangDone, Value: value, Out: r.out, Steps: r.steps}
	var e ending
	if errors.As(err, &e) {
		result.Kind, result.Value, result.Place = e.kind, e.trap, e.place
	}
	return result
}

// step does one, if there is fuel for it.
func (r *run) step() error {
	if r.steps == r.fuel {
		return ending{kind: api.LangFuel}
	}
	r.steps++
	return nil
}

// call lets a function run whose parameters are in the frame already: what it returns.
func (r *run) call(f *function, locals *frame) (int, error) {
	outer := r.locals
	r.locals = locals
	r.running++
	how, err := r.bodies[f.number](r)
	r.running--
	r.locals = outer
	if err != nil || how != flowReturn {
		return 0, err
	}
	return r.returned, nil
}

// variable is the one in a slot.
func (r *run) variable(s slot) *int {
	if s.global {
		return &r.globals[s.at]
	}
	return &r.locals[s.at]
}

// element is the one of an array with this index.
func (r *run) element(e *element, index int) (*int, error) {
	if index >= e.array.words() {
		return nil, trap(api.TrapIndex, e.name)
	}
	return &r.globals[e.array.at+index], nil
}

// put puts a byte out; the word is the one that says so.
func (r *run) put(b byte, word token) error {
	if len(r.out) == api.MaxOut {
		return trap(api.TrapOut, word)
	}
	r.out = append(r.out, b)
	return nil
}
