package lazy

// placesOf: is each number of all lists the place of one of so many cells?
func placesOf(cells int, lists [][]int) bool {
	for _, list := range lists {
		for _, at := range list {
			if at < 0 || at >= cells {
				return false
			}
		}
	}
	return true
}

// counting are cells of numbers, and how often the make of each was called.
func counting(numbers []int) ([]*Cell[int], []int) {
	cells := make([]*Cell[int], len(numbers))
	many := make([]int, len(numbers))
	for at, number := range numbers {
		cells[at] = New(func() int {
			// No lock: nobody else counts here, as a cell calls its make once.
			many[at]++
			return number
		})
	}
	return cells, many
}

// got is what cells tell that are asked one behind another, each at the next place of a list.
func got(cells []*Cell[int], list []int) []int {
	saw := make([]int, len(list))
	for i, at := range list {
		saw[i] = cells[at].Get()
	}
	return saw
}
