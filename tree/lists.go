package tree

// Numbers tells the numbers of all elements, rising. The list itself has them in the order of siblings.
func (t *Tree) Numbers() []int {
	var numbers []int
	for _, e := range t.elements {
		numbers = append(numbers, e.number)
		for i := len(numbers) - 1; i > 0 && numbers[i-1] > numbers[i]; i-- {
			greater := numbers[i-1]
			numbers[i-1] = numbers[i]
			numbers[i] = greater
		}
	}
	return numbers
}

// Downwards tells the numbers of all elements, each behind its parent.
func (t *Tree) Downwards() []int {
	numbers := []int{root}
	for i := range t.elements {
		if i >= len(numbers) {
			return numbers
		}
		for _, e := range t.elements {
			if e.parent == numbers[i] {
				numbers = append(numbers, e.number)
			}
		}
	}
	return numbers
}

// Reach tells the elements on which it may tell if an element's classes, its name or its children are changed.
// Its children change their places, itself may become empty, and selectors look upwards and at siblings ahead:
// so these are the element, its siblings behind it, and all below them.
func (t *Tree) Reach(e int) []int {
	place, there := t.find(e)
	if !there {
		return nil
	}
	parent := t.elements[place].parent
	var reach []int
	for _, top := range t.elements[place:] {
		if top.parent != parent {
			continue
		}
		for _, other := range t.elements {
			if t.within(other.number, top.number) {
				reach = append(reach, other.number)
			}
		}
	}
	return reach
}

// Wanted tells whether an element is shown, or one below it is.
func (t *Tree) Wanted(e int) bool {
	for _, other := range t.elements {
		if other.shown && t.within(other.number, e) {
			return true
		}
	}
	return false
}
