package tree

const letters = 'z' - 'a' + 1

// element is named by its number, as its place in the list changes; a name of 0 is none.
type element struct {
	number  int
	parent  int
	kind    byte
	classes [letters]bool
	name    byte
	shown   bool
}

// placeFor tells where in a list an element has to be put to become a parent's child number at.
func placeFor(list []element, parent, at int) (int, bool) {
	ahead := 0
	for place, e := range list {
		if e.parent != parent {
			continue
		}
		if ahead == at {
			return place, true
		}
		ahead++
	}
	return len(list), ahead == at
}

func with(list []element, place int, added element) []element {
	var longer []element
	for i, e := range list {
		if i == place {
			longer = append(longer, added)
		}
		longer = append(longer, e)
	}
	if place == len(list) {
		longer = append(longer, added)
	}
	return longer
}

func without(list []element, place int) []element {
	var shorter []element
	for i, e := range list {
		if i != place {
			shorter = append(shorter, e)
		}
	}
	return shorter
}
