package debug

import (
	"errors"
	"testing"

	"arcade/api"
	"arcade/board"
)

// What is wrong with a line is an error value that says why, and is told apart, wrapped or not.
func TestQ2Faults(t *testing.T) {
	d, _ := New(board.New(nil))
	for _, c := range []struct {
		line, why string
		errno     api.Errno
	}{
		{"jump 1", "no command: jump", api.ErrDebugText},
		{"step x", "no number: x", api.ErrDebugText},
		{"set q 1", "no register: q", api.ErrDebugText},
		{"break 1 a ? 1", "no sign: ?", api.ErrDebugText},
		{"regs 1", "too many words: 1", api.ErrDebugText},
		{"step 0", "out of bounds: 0", api.ErrDebugNumber},
		{"set f 17", "out of bounds: 17", api.ErrDebugNumber},
		{"delete 1", "no such point", api.ErrDebugPoint},
		{"return 1", "nothing is kept", api.ErrDebugPoint},
		{"back 1", "not so far back", api.ErrDebugBack},
	} {
		_, err := d.do(c.line)
		var f fault
		if !errors.As(err, &f) || f.errno != c.errno || err.Error() != c.why {
			t.Errorf("do(%q): %v", c.line, err)
		}
		if e := errno(errors.Join(errors.New("another"), err)); e != c.errno {
			t.Errorf("errno of %q, wrapped = %d, want %d", c.line, e, c.errno)
		}
	}
	if e := errno(nil); e != api.OK {
		t.Errorf("errno(nil) = %d", e)
	}
}
