package derive

import (
	"slices"

	"tinderbox/api"
)

// operation makes a number of others: of those of a rule's needs, and its Add behind them; false, if it makes nothing.
type operation func(numbers []int) (int, bool)

// operations are those of rules, each at the place that is its Op.
func operations() []operation {
	return []operation{
		api.OpSum:   added,
		api.OpMost:  greatest,
		api.OpLeast: least,
		api.OpTimes: multiplied,
		api.OpShare: shared,
		// Of other numbers: see numbersOf.
		api.OpCount: added,
	}
}

func added(numbers []int) (int, bool) {
	sum := 0
	for _, n := range numbers {
		// Neither is beyond 2^62: what they would wrap round to is out of bounds too.
		sum += n
		if !isNumber(sum) {
			return 0, false
		}
	}
	return sum, true
}

func greatest(numbers []int) (int, bool) {
	return slices.Max(numbers), true
}

func least(numbers []int) (int, bool) {
	return slices.Min(numbers), true
}

func multiplied(numbers []int) (int, bool) {
	product := 1
	for _, n := range numbers {
		// Asked ahead, as what a product wraps round to may lie anywhere.
		if n != 0 && size(product) > api.MaxInt/size(n) {
			return 0, false
		}
		product *= n
	}
	return product, true
}

// shared is one number, divided by Add.
func shared(numbers []int) (int, bool) {
	return numbers[0] / numbers[1], true
}

// isNumber: may n be met on the way?
func isNumber(n int) bool {
	return n >= -api.MaxInt && n <= api.MaxInt
}

// size is n without its sign.
func size(n int) int {
	return max(n, -n)
}
