package block_test

import "fmt"

// run is so many bytes that are alike.
type run struct {
	x    byte
	many int
}

// runs are bytes as runs, the first few of them.
func runs(b []byte) []run {
	var list []run
	for _, x := range b {
		if n := len(list); n > 0 && list[n-1].x == x {
			list[n-1].many++
			continue
		}
		if len(list) == 12 {
			break
		}
		list = append(list, run{x, 1})
	}
	return list
}

// short tells bytes by their runs.
func short(b []byte) string {
	s := fmt.Sprintf("%d bytes:", len(b))
	for _, r := range runs(b) {
		s += fmt.Sprintf(" %d*%d", r.many, r.x)
	}
	return s
}
