package values

// The properties are A to F and the variables X to Z; each stands in a style at its place in this order.
const (
	ordinary  = 6
	variables = 3
	all       = ordinary + variables
)

// coming is how many of A to F come down: the first ones.
const coming = 3

// Style has the values of all properties on an element.
type Style [all]int

// Initial is the style of initial values.
func Initial() Style {
	var style Style
	for i := range ordinary {
		style[i] = i + 1
	}
	return style
}

// Property tells the place in a style of the property that a text names.
func Property(text string) (int, bool) {
	if len(text) != 1 {
		return 0, false
	}
	return placeOf(text[0])
}

func placeOf(property byte) (int, bool) {
	if property >= 'A' && property < 'A'+ordinary {
		return int(property - 'A'), true
	}
	if property >= 'X' && property < 'X'+variables {
		return ordinary + int(property-'X'), true
	}
	return 0, false
}

func comesDown(place int) bool {
	return place < coming || place >= ordinary
}
