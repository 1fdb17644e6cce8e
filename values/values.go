// Package values: what the properties of an element are, by the rules that match it and by what its parent has.
package values

import (
	"style/rules"
	"style/tree"
)

// Of tells the style of an element; comes is its parent's, or the initial one for the root.
func Of(sheet rules.Sheet, t *tree.Tree, e int, comes Style) Style {
	w := winnersOf(sheet, t, e)
	var style Style
	for place := range style {
		style[place] = w.value(place, comes)
	}
	return style
}

// value goes on from variable to variable. There are three, so within as many steps it is at one
// that goes on to no other, or at one that comes back to itself.
func (w winners) value(place int, comes Style) int {
	for range all {
		if w.comesBack(place) {
			return comes[place]
		}
		next, goesOn := w.next(place)
		if !goesOn {
			return w.direct(place, comes)
		}
		place = next
	}
	return comes[place]
}

// next tells which variable a property's winner names.
func (w winners) next(place int) (int, bool) {
	if w[place].value.Kind != rules.Variable {
		return 0, false
	}
	return placeOf(w[place].value.Variable)
}

func (w winners) comesBack(start int) bool {
	place, goesOn := w.next(start)
	for range variables {
		if !goesOn || place == start {
			return goesOn
		}
		place, goesOn = w.next(place)
	}
	return false
}

// direct is the value of a property whose winner names no variable.
func (w winners) direct(place int, comes Style) int {
	initial := Initial()
	switch w[place].value.Kind {
	case rules.Number:
		return w[place].value.Number
	case rules.Comes:
		return comes[place]
	case rules.Initial:
		return initial[place]
	}
	if comesDown(place) {
		return comes[place]
	}
	return initial[place]
}
