package lang

// wide is how many bits a number has: shifted so far or farther, none of them is left.
const wide = 16

// reckoningOfOne is what a sign ahead makes of a number; of what it gives the 16 lowest bits count.
func reckoningOfOne(sign string) func(int) int {
	switch sign {
	case "-":
		return func(x int) int { return -x }
	case "~":
		return func(x int) int { return ^x }
	}
	return func(x int) int { return truth(x == 0) }
}

// reckoningOfTwo is what a sign between two makes of them; of what it gives the 16 lowest bits count. Nothing is divided by 0.
func reckoningOfTwo(sign string) func(int, int) int {
	switch sign {
	case "|":
		return func(x, y int) int { return x | y }
	case "^":
		return func(x, y int) int { return x ^ y }
	case "&":
		return func(x, y int) int { return x & y }
	case "<<":
		return func(x, y int) int { return x << min(y, wide) }
	case ">>":
		return func(x, y int) int { return x >> min(y, wide) }
	case "+":
		return func(x, y int) int { return x + y }
	case "-":
		return func(x, y int) int { return x - y }
	case "*":
		return func(x, y int) int { return x * y }
	case "/":
		return func(x, y int) int { return x / y }
	case "%":
		return func(x, y int) int { return x % y }
	}
	holds := comparisonOf(sign)
	return func(x, y int) int { return truth(holds(x, y)) }
}

func comparisonOf(sign string) func(int, int) bool {
	switch sign {
	case "==":
		return func(x, y int) bool { return x == y }
	case "!=":
		return func(x, y int) bool { return x != y }
	case "<":
		return func(x, y int) bool { return x < y }
	case "<=":
		return func(x, y int) bool { return x <= y }
	case ">":
		return func(x, y int) bool { return x > y }
	}
	return func(x, y int) bool { return x >= y }
}
