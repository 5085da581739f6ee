package lang

import (
	"errors"
	"testing"

	"arcade/api"
	"arcade/asm"
)

// What is wrong with a source is an error value with its place, which is found, wrapped or not.
func TestL1Faults(t *testing.T) {
	for _, c := range []struct {
		source string
		errno  api.Errno
		place  int
		why    string
	}{
		{"fn main(){$}", api.ErrLangText, 10, "error 182 at 10"},
		{"fn main(){{{{{{{{{{{", api.ErrLangDeep, 19, "error 183 at 19"},
		{"fn main(){x=1;}", api.ErrLangName, 10, "error 186 at 10"},
		{"var a;", api.ErrLangMain, 6, "error 190 at 6"},
	} {
		p, err := checked(c.source)
		var f fault
		if !errors.As(err, &f) || f != (fault{c.errno, c.place}) || err.Error() != c.why {
			t.Errorf("checked(%q) = %v, %v", c.source, p, err)
		}
		if at, e := told(errors.Join(errors.New("another"), err)); at != c.place || e != c.errno {
			t.Errorf("told of %q, wrapped = %d, %d", c.source, at, e)
		}
	}
	if at, e := told(nil); at != 0 || e != api.OK {
		t.Errorf("told(nil) = %d, %d", at, e)
	}
}

// So is why a run ends ahead of its program.
func TestL1Endings(t *testing.T) {
	for _, c := range []struct {
		source string
		fuel   int
		want   ending
		why    string
	}{
		{"fn main(){return 1/0;}", 9, ending{api.LangTrap, api.TrapDivide, 18}, "ended by 2, 2 at 18"},
		{"fn main(){main();}", 90, ending{api.LangTrap, api.TrapDeep, 10}, "ended by 2, 3 at 10"},
		{"fn main(){return 1;}", 1, ending{kind: api.LangFuel}, "ended by 3, 0 at 0"},
	} {
		p, err := checked(c.source)
		if err != nil {
			t.Fatal(err)
		}
		r := &run{fuel: c.fuel}
		for _, f := range p.functions {
			r.bodies = append(r.bodies, f.body.act())
		}
		_, err = r.call(p.main, &frame{})
		var e ending
		if !errors.As(err, &e) || e != c.want || err.Error() != c.why {
			t.Errorf("the run of %q ended by %v", c.source, err)
		}
	}
}

// The routines are assembled without a fault, start where an image does, and are all there that the operators name.
func TestL2Routines(t *testing.T) {
	image, line, e := asm.Assemble(settings() + routines)
	if e != api.OK || image.Org != api.LangOrg || len(image.Code) == 0 {
		t.Fatalf("Assemble = %d at line %d", e, line)
	}
	code, addresses := machine()
	if string(code) != string(image.Code) {
		t.Error("the machine's code is another one")
	}
	for _, o := range operators {
		at := addresses[o.routine]
		if o.routine != "" && (at <= api.LangOrg || at >= api.LangOrg+len(code)) {
			t.Errorf("%s is at %d", o.sign, at)
		}
	}
	for _, name := range []string{"end", "enter", "leave", "fetch", "keep", "element", "test", "truth", "input", "left", "output", "print", "turn", "not", "negate"} {
		if addresses[name] <= api.LangOrg {
			t.Errorf("%s is at %d", name, addresses[name])
		}
	}
}
