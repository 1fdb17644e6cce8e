// Package kept: the styles that are kept of elements from one call to the next.
package kept

import "style/values"

// Styles has the styles of the fresh elements. One that may be wrong is of no use to any call,
// so of stale elements none is kept.
type Styles struct {
	list []one
}

type one struct {
	element int
	style   values.Style
}

// Find tells the style of an element, and whether the element is fresh.
func (s *Styles) Find(e int) (values.Style, bool) {
	for _, each := range s.list {
		if each.element == e {
			return each.style, true
		}
	}
	return values.Style{}, false
}

// Keep makes a stale element fresh.
func (s *Styles) Keep(e int, style values.Style) {
	s.list = append(s.list, one{element: e, style: style})
}

// Drop makes the elements of a list stale.
func (s *Styles) Drop(list []int) {
	var rest []one
	for _, each := range s.list {
		if !isIn(list, each.element) {
			rest = append(rest, each)
		}
	}
	s.list = rest
}

func isIn(list []int, e int) bool {
	for _, each := range list {
		if each == e {
			return true
		}
	}
	return false
}
